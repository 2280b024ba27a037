"""A desk: lines are said to a bench, and answered (section 16)."""

from liarslate.ends import ends
from liarslate.errors import BadTask, Wide
from liarslate.expressions import number_of
from liarslate.journals import read_journal
from liarslate.told import told_all
from liarslate.waiting import waits
from liarslate.wording import calm_text, deed_of, do_at, joined_texts, joined_words, letter_text, NONE, value_words

DONE = "done"
WIDE = "wide"
MOST_ENDS = 2000


def answer_undo(bench):
    """Takes a deed back."""
    bench.undo()
    return DONE


def answer_redo(bench):
    """Does a deed again."""
    bench.redo()
    return DONE


def answer_says(bench):
    """What each hand said."""
    return value_words(bench.net.says)


def answer_under(bench):
    """The numbers of the slips under way."""
    numbers = [slip[0] for slip in bench.net.under_way]
    return joined_words(numbers) if numbers else NONE


def answer_steps(bench):
    """How many deeds the net has."""
    return str(len(bench))


def answer_told(bench):
    """The run that all honest hands together are told."""
    return calm_text(told_all(bench.net))


def answer_ends(bench):
    """The rows of ends."""
    try:
        rows = ends(bench.program, bench.house, bench.liars, bench.inputs, MOST_ENDS)
    except Wide:
        return WIDE
    return joined_texts([value_words(row) for row in rows])


def answer_used(bench, hand):
    """The letters that a hand used."""
    return joined_texts([letter_text(letter) for letter in bench.net.used(hand)])


def answer_waits(bench, hand):
    """What a hand waits for."""
    return joined_texts([f"{other} {found[0]}" for other, found in waits(bench.net, hand)])


ANSWERS = {
    "undo": answer_undo,
    "redo": answer_redo,
    "says": answer_says,
    "under": answer_under,
    "steps": answer_steps,
    "told": answer_told,
    "ends": answer_ends,
}
ANSWERS_OF_HANDS = {"used": answer_used, "waits": answer_waits}


def answer_of_hand(bench, line):
    """The answer to a line that asks for a hand, None if it has no such form."""
    words = line.split(" ")
    if len(words) != 2 or words[0] not in ANSWERS_OF_HANDS or number_of(words[1]) is None:
        return None
    answer = ANSWERS_OF_HANDS[words[0]]
    return answer(bench, number_of(words[1]))


def answer_deed(bench, line):
    """The answer to a line that is a deed, None if it has no such form."""
    deed = deed_of(line)
    if deed is None:
        return None
    told = do_at(bench, deed)
    return DONE if told is None else str(told)


class Desk:
    """A bench to which lines are said."""

    def __init__(self, text):
        self.bench = read_journal(text)

    def say(self, line):
        """Does what a line tells, and answers it."""
        if not isinstance(line, str) or "\n" in line:
            raise BadTask(line)
        if line in ANSWERS:
            answer = ANSWERS[line]
            return answer(self.bench)
        told = answer_of_hand(self.bench, line)
        if told is None:
            told = answer_deed(self.bench, line)
        if told is None:
            raise BadTask(line)
        return told
