"""Journals: what was done at a bench, as a text that can be read back (section 16)."""

from liarslate.benches import Bench
from liarslate.errors import BadHouse, BadInputs, BadJournal, BadLiars, BadProgram, SlateError
from liarslate.texts import Program
from liarslate.wording import deed_of, deed_text, do_at, headed, joined_words, numbers_of, value_words, values_of

DEEDS = "deeds"
HEADS = 3


def journal(bench):
    """The text of what was done at a bench."""
    text, house, inputs, liars = bench.made_of
    heads = [
        text, headed("house", joined_words(house)), headed("inputs", value_words(inputs)),
        headed("liars", joined_words(liars)), DEEDS,
    ]
    return "\n".join([*heads, *[deed_text(deed) for deed in bench.steps]])


def behind(word, line):
    """The words that stand behind this first word of a line, None if it begins otherwise."""
    words = line.split(" ")
    return words[1:] if words[0] == word else None


def house_told(line):
    """What a line tells of a house, None if it has no such form."""
    words = behind("house", line)
    return None if words is None or len(words) != 2 else numbers_of(words)


def inputs_told(line):
    """What a line tells of inputs, None if it has no such form."""
    words = behind("inputs", line)
    return None if words is None else values_of(words)


def liars_told(line):
    """What a line tells of liars, None if it has no such form."""
    words = behind("liars", line)
    return None if words is None else numbers_of(words)


def check_program_lines(lines):
    """Refuses lines that are no program's."""
    try:
        Program("\n".join(lines))
    except BadProgram as error:
        raise BadJournal(error.value) from None


def bench_of(lines):
    """The Bench that the lines ahead of the deeds tell."""
    many = len(lines)
    if many <= HEADS:
        raise BadJournal(many + 1)
    first = many - HEADS
    check_program_lines(lines[:first])
    house, inputs, liars = house_told(lines[first]), inputs_told(lines[first + 1]), liars_told(lines[first + 2])
    for number, told in enumerate((house, inputs, liars), start=first + 1):
        if told is None:
            raise BadJournal(number)
    try:
        return Bench("\n".join(lines[:first]), house, inputs, liars)
    except BadHouse:
        raise BadJournal(first + 1) from None
    except BadInputs:
        raise BadJournal(first + 2) from None
    except BadLiars:
        raise BadJournal(first + 3) from None


def do_line(bench, line, number):
    """Does what a line with this number tells."""
    deed = deed_of(line)
    if deed is None:
        raise BadJournal(number)
    try:
        do_at(bench, deed)
    except SlateError:
        raise BadJournal(number) from None


def read_journal(text):
    """The Bench on which what a journal tells was done."""
    if not isinstance(text, str):
        raise BadJournal(0)
    lines = text.split("\n")
    if DEEDS not in lines:
        raise BadJournal(len(lines) + 1)
    at = lines.index(DEEDS)
    bench = bench_of(lines[:at])
    for number, line in enumerate(lines[at + 1 :], start=at + 2):
        do_line(bench, line, number)
    return bench
