"""The words of journals and desks (section 16): texts of letters and deeds, and deeds read from lines."""

from liarslate.expressions import number_of

NOTHING = "-"
NONE = "none"
BETWEEN_LINES = " / "
BETWEEN_TEXTS = " ; "
REWRITE = "rewrite "


def joined_words(values):
    """These, parted by one blank."""
    return " ".join([str(value) for value in values])


def value_words(values):
    """A word for each hand: a number, or one that stands for None."""
    return joined_words([NOTHING if value is None else value for value in values])


def headed(word, text):
    """A word and what stands behind it, if something does."""
    return f"{word} {text}" if text else word


def joined_texts(texts):
    """These, parted as several of a kind are, or the word for none of them."""
    return BETWEEN_TEXTS.join(texts) if texts else NONE


def letter_text(letter):
    """The text of a LETTER."""
    hand, at, value, claim = letter
    if isinstance(claim, tuple):
        return headed(f"{hand} {at} {value} lot", joined_words(claim))
    return f"{hand} {at} {value} input {claim}"


def entry_text(entry):
    """The text of an ENTRY."""
    if entry is None:
        return NOTHING
    return "".join([str(entry[0]), *[f" : {joined_words(lot)}" for lot in entry[1]]])


def calm_text(calm):
    """The text of a CALM."""
    return joined_texts([entry_text(entry) for entry in calm])


def deed_text(deed):
    """The line of a deed."""
    if deed[0] == "deliver":
        return f"deliver {deed[1]}"
    if deed[0] == "lie":
        kind, letter = deed[3]
        return f"lie {deed[1]} {deed[2]} {kind} {letter_text(letter)}"
    if deed[0] == "fresh":
        return " ".join([headed("fresh", value_words(deed[1])), headed("liars", joined_words(deed[2]))])
    if deed[0] == "rewrite":
        return REWRITE + deed[1].replace("\n", BETWEEN_LINES)
    return "rest"


def numbers_of(words):
    """The tuple of the integers that these words are, None if one is none."""
    numbers = tuple([number_of(word) for word in words])
    return None if None in numbers else numbers


def values_of(words):
    """The tuple of the integers that these words are, or of None for its word; None if a word is none of both."""
    values = tuple([None if word == NOTHING else number_of(word) for word in words])
    bad = [word for word, value in zip(words, values) if value is None and word != NOTHING]
    return None if bad else values


def letter_of_words(words):
    """The LETTER, or what has the form of one, that these words are, None if they have no such form."""
    if len(words) < 4 or words[3] not in ("input", "lot"):
        return None
    place = numbers_of(words[:3])
    claim = numbers_of(words[4:])
    if place is None or claim is None:
        return None
    if words[3] == "lot":
        return (*place, claim)
    return (*place, claim[0]) if len(claim) == 1 else None


def lie_of(words):
    """The lie that these words behind the first are, None if they have no such form."""
    hands = numbers_of(words[:2])
    letter = letter_of_words(words[3:])
    if hands is None or letter is None or words[2] == "":
        return None
    return ("lie", hands[0], hands[1], (words[2], letter))


def fresh_of(words):
    """The fresh net that these words behind the first are, None if they have no such form."""
    if "liars" not in words:
        return None
    at = words.index("liars")
    inputs, liars = values_of(words[:at]), numbers_of(words[at + 1 :])
    return None if inputs is None or liars is None else ("fresh", inputs, liars)


def deed_of(line):
    """The deed that a line is, None if it has no such form."""
    if line.startswith(REWRITE):
        return ("rewrite", line[len(REWRITE) :].replace(BETWEEN_LINES, "\n"))
    words = line.split(" ")
    if words[0] == "deliver":
        numbers = numbers_of(words[1:])
        return ("deliver", *numbers) if numbers is not None and len(numbers) == 1 else None
    if words[0] == "lie":
        return lie_of(words[1:])
    if words[0] == "fresh":
        return fresh_of(words[1:])
    return ("rest",) if line == "rest" else None


def do_at(bench, deed):
    """Does a deed at a bench: what it returned."""
    if deed[0] == "deliver":
        return bench.deliver(deed[1])
    if deed[0] == "lie":
        return bench.lie(deed[1], deed[2], deed[3])
    if deed[0] == "fresh":
        return bench.fresh(deed[1], deed[2])
    if deed[0] == "rewrite":
        return bench.rewrite(deed[1])
    return bench.rest()
