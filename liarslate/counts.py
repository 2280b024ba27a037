"""Counts: which sentences on the spreading of one letter hold by them, and how the others are broken (section 7)."""

from itertools import product

from liarslate.errors import BadSentence, BadStops, BadTalk, SlateError
from liarslate.plots import plotted
from liarslate.sentences import can_break, SENTENCES
from liarslate.spreading import check_counts, check_number, MOST_SPREAD, Spread
from liarslate.terms import is_from

MOST_FEWEST_STOPS = 3
REST = ("rest",)


def check_stops(n, t):
    """Refuses what is no number of liars that leaves two honest hands of n."""
    if not is_from(t, 0, n - 2):
        raise BadStops(t)


def check_sentence(sentence):
    """Refuses what is no word for a sentence."""
    if not isinstance(sentence, str) or sentence not in SENTENCES:
        raise BadSentence(sentence)


def check_question(n, t, counts, sentence):
    """Refuses what can't be asked of a sentence."""
    check_number(n)
    check_stops(n, t)
    check_counts(counts)
    check_sentence(sentence)


def begun_by(n, counts, talk):
    """The Spread by which a talk begins, None if it is no TALK."""
    if not isinstance(talk, tuple) or len(talk) != 4 or not isinstance(talk[3], tuple):
        return None
    try:
        return Spread(n, counts, talk[0], talk[1], talk[2])
    except SlateError:
        return None


def has_done(spread, deed):
    """Whether it is a deed that could be done: if it could, it is done."""
    if not isinstance(deed, tuple):
        return False
    try:
        if len(deed) == 2 and deed[0] == "deliver":
            spread.deliver(deed[1])
        elif len(deed) == 5 and deed[0] == "lie":
            spread.lie(deed[1], deed[2], deed[3], deed[4])
        elif deed == REST:
            spread.rest()
        else:
            return False
    except SlateError:
        return False
    return True


def led_by(n, counts, talk):
    """The Spread behind a talk, None if it is no TALK that can be led."""
    spread = begun_by(n, counts, talk)
    if spread is None:
        return None
    for deed in talk[3]:
        if not has_done(spread, deed):
            return None
    return spread


def sentences_broken(spread, value):
    """The sentences that are broken in a Spread whose first one said this value, None if it lies."""
    taken = [took for hand, took in enumerate(spread.takings) if hand not in spread.liars]
    kinds = [took for at, took in enumerate(taken) if took is not None and took not in taken[:at]]
    found = {
        "all": not spread.under_way and kinds != [] and None in taken,
        "heard": value is not None and not spread.under_way and taken != [value] * len(taken),
        "one": len(kinds) > 1,
        "own": value is not None and kinds not in ([], [value]),
    }
    return tuple([sentence for sentence in SENTENCES if found[sentence]])


def breaks(n, t, counts, sentence):
    """A TALK behind whose deeds this sentence is broken, None if it can't be."""
    check_question(n, t, counts, sentence)
    return plotted(n, t, counts, sentence) if can_break(n, t, counts, sentence) else None


def shows_breaks(n, t, counts, sentence, value):
    """Whether any value is right as what breaks tells."""
    check_question(n, t, counts, sentence)
    if value is None:
        return not can_break(n, t, counts, sentence)
    spread = led_by(n, counts, value)
    if spread is None or len(spread.liars) > t or sentence not in sentences_broken(spread, value[2]):
        return False
    return sentence in ("one", "own") or value[3][-1:] == (REST,)


def played(n, counts, talk):
    """The Spread behind a TALK."""
    check_number(n)
    check_counts(counts)
    spread = led_by(n, counts, talk)
    if spread is None:
        raise BadTalk(talk)
    return spread


def broken(n, counts, talk):
    """The ascending tuple of the sentences that are broken behind a TALK."""
    return sentences_broken(played(n, counts, talk), talk[2])


def sentences_breakable(n, t, counts):
    """The ascending tuple of the sentences that can be broken, of right numbers."""
    return tuple([sentence for sentence in SENTENCES if can_break(n, t, counts, sentence)])


def why(n, t, counts):
    """The ascending tuple of the sentences that can be broken."""
    check_number(n)
    check_stops(n, t)
    check_counts(counts)
    return sentences_breakable(n, t, counts)


def fine_counts(n, t):
    """All COUNTS of integers from 1 to n by which no sentence can be broken, ascending."""
    check_number(n)
    check_stops(n, t)
    sizes = list(range(1, n + 1))
    return tuple([counts for counts in product(sizes, sizes, sizes) if not sentences_breakable(n, t, counts)])


def bears(n, counts):
    """The greatest number of liars by which no sentence can be broken, None without."""
    check_number(n)
    check_counts(counts)
    fine = [t for t in range(n - 1) if not sentences_breakable(n, t, counts)]
    return max(fine, default=None)


def fewest(t):
    """The least number of hands for which some counts are fine."""
    if not is_from(t, 0, MOST_FEWEST_STOPS):
        raise BadStops(t)
    return min([n for n in range(t + 2, MOST_SPREAD + 1) if fine_counts(n, t)])
