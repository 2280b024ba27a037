"""Plots: how liars break the sentences on one letter where the counts let them (section 7).

The honest hands are those from 0 on, the liars the last ones. A plot is led in a Spread of its own.
"""

from liarslate.sentences import is_promised_by_few, is_taken_by_lies
from liarslate.spreading import Spread

RIGHT = 1
WRONG = 2


def many_liars(spread):
    """How many lie."""
    return len(spread.liars)


def honest_ones(spread):
    """The honest hands of a plot."""
    return list(range(spread.n - many_liars(spread)))


def lacking_echoes(spread):
    """How many honest echoes are wanted for a promise, all liars echoing, too."""
    return max(0, spread.counts[0] - many_liars(spread))


def lie_to(spread, hands, kind, value, many):
    """The first so many liars tell these hands this value, who hear it at once."""
    for hand in hands:
        for liar in spread.liars[:many]:
            spread.deliver(spread.lie(liar, hand, kind, value))


def carry(spread, kind, senders, receivers):
    """Delivers the slips of this kind that are under way from the ones to the others."""
    for number, sender, to, slip_kind, _ in list(spread.under_way):
        if slip_kind == kind and sender in senders and to in receivers:
            spread.deliver(number)


def echo_to(spread, tellers, hands, value):
    """Brings hands to promise a value by echoes: those of the tellers, who heard the first one say it, and of liars."""
    lie_to(spread, tellers, "said", value, 1)
    lie_to(spread, hands, "echo", value, many_liars(spread))
    carry(spread, "echo", tellers, hands)


def press(spread):
    """All liars echo and promise the wrong value to all."""
    for kind in ("echo", "promise"):
        lie_to(spread, honest_ones(spread), kind, WRONG, many_liars(spread))


def lead_own(spread):
    """The others promise what the first one did not say, and with the liars they are enough for hand 1."""
    press(spread)
    carry(spread, "promise", honest_ones(spread), (1,))


def lead_heard(spread):
    """Liars are silent if this is enough, otherwise hand 1 comes to promise or to take the wrong value."""
    e, _, d = spread.counts
    if max(e, d) <= len(honest_ones(spread)):
        press(spread)


def lead_one(spread):
    """Two halves of the honest hands come to unlike values, hearing the liars and nobody of the other half."""
    _, r, d = spread.counts
    t = many_liars(spread)
    honest = honest_ones(spread)
    half = len(honest) // 2
    for value, side in ((RIGHT, honest[:half]), (WRONG, honest[half:])):
        if d > t and r > t:
            echo_to(spread, side, side, value)
        lie_to(spread, side, "promise", value, t)
        carry(spread, "promise", side, side)


def lead_few(spread):
    """As few hands promise as can take with the liars: the others hear too few promises for anything."""
    _, r, d = spread.counts
    t = many_liars(spread)
    honest = honest_ones(spread)
    few = honest[: max(1, d - t)]
    if r > t:
        echo_to(spread, honest[: lacking_echoes(spread)], few, RIGHT)
    lie_to(spread, few, "promise", RIGHT, t)


def lead_all_but_last_lie(spread):
    """All promise one value: hand 0 hears all liars, each other one a lie less than would be enough."""
    _, r, _ = spread.counts
    lie_to(spread, (0,), "promise", RIGHT, many_liars(spread))
    lie_to(spread, honest_ones(spread)[1:], "promise", RIGHT, r - 1)


def lead_unlike_promises(spread):
    """Each hand promises a value of its own, but for as many as can take with the liars."""
    _, r, d = spread.counts
    t = many_liars(spread)
    honest = honest_ones(spread)
    few = max(1, d - t)
    lie_to(spread, honest[:few], "promise", RIGHT, t)
    for hand in honest[few:]:
        lie_to(spread, (hand,), "promise", RIGHT + hand, r)


def lead_one_by_echoes(spread):
    """With r = 1 and d = 2 each one takes what a liar promised it, but for hand 0, which promised by echoes."""
    honest = honest_ones(spread)
    echo_to(spread, honest[: lacking_echoes(spread)], (0,), RIGHT)
    for hand in honest[1:]:
        lie_to(spread, (hand,), "promise", RIGHT + hand, 1)


def lead_unlike_echoes(spread):
    """By echoes all promise, too few each value; with the liars one value is enough for hand 0."""
    _, _, d = spread.counts
    lacking = lacking_echoes(spread)
    honest = honest_ones(spread)
    for at in range(0, len(honest), d - 1):
        number = at // (d - 1)
        tellers = honest[number * lacking : (number + 1) * lacking]
        echo_to(spread, tellers, honest[at : at + d - 1], RIGHT + number)
    lie_to(spread, (0,), "promise", RIGHT, many_liars(spread))


def lead_all(spread):
    """Hand 0 takes something with the liars' help, which another one never does."""
    _, r, d = spread.counts
    t = many_liars(spread)
    if is_taken_by_lies(spread.n, t, spread.counts):
        lie_to(spread, (0,), "promise", RIGHT, d)
    elif is_promised_by_few(spread.n, t, spread.counts):
        lead_few(spread)
    elif r > t:
        lead_unlike_echoes(spread)
    elif d < r + 2:
        lead_one_by_echoes(spread)
    elif d == spread.n:
        lead_all_but_last_lie(spread)
    else:
        lead_unlike_promises(spread)


LEADS = {"all": lead_all, "heard": lead_heard, "one": lead_one, "own": lead_own}


def plotted(n, t, counts, sentence):
    """A TALK behind which this sentence is broken, for numbers that let it be."""
    liars = tuple(range(n - t, n))
    first, value = (0, RIGHT) if sentence in ("heard", "own") else (n - t, None)
    spread = Spread(n, counts, liars, first, value)
    lead = LEADS[sentence]
    lead(spread)
    ends = (("rest",),) if sentence in ("all", "heard") else ()
    return (liars, first, value, spread.log + ends)
