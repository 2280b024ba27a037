"""Calm runs: who heard whom in the world in which nobody lies, and what follows of it (section 5)."""

from itertools import combinations

from liarslate.errors import BadCalm, BadLot, Begun, NoLetter, Quarrel
from liarslate.terms import check_hand, check_house, is_hand, is_integer, is_lot, is_pair
from liarslate.texts import cells_later, check_input, check_program, first_cells, is_input, value_said, value_sent


def many_sent(program, entry):
    """How many letters a hand with this ENTRY has sent."""
    return 0 if entry is None else min(program.rounds, len(entry[1]) + 1)


def is_entry(program, house, hand, value):
    """Whether value is an ENTRY of this hand, whatever the others did."""
    if value is None:
        return True
    if not is_pair(value) or not is_input(program, value[0]) or not isinstance(value[1], tuple):
        return False
    return len(value[1]) <= program.rounds and all([is_lot(lot, house) and hand in lot for lot in value[1]])


def is_sent(entry, many):
    """Whether all whom a hand with this ENTRY heard have sent what it heard, many telling how much each one sent."""
    if entry is None:
        return True
    return all([many[other] >= at for at, lot in enumerate(entry[1], start=1) for other in lot])


def is_run(program, house, value):
    """Whether any value is a CALM of a right program and house."""
    if not isinstance(value, tuple) or len(value) != house[0]:
        return False
    if not all([is_entry(program, house, hand, entry) for hand, entry in enumerate(value)]):
        return False
    many = [many_sent(program, entry) for entry in value]
    return all([is_sent(entry, many) for entry in value])


def check_world(program, house):
    """Refuses what is no PROGRAM or no HOUSE."""
    check_program(program)
    check_house(house)


def check_run(program, house, calm):
    """Refuses what is no CALM of a right program and house."""
    if not is_run(program, house, calm):
        raise BadCalm(calm)


def check_all(program, house, calm):
    """Refuses what is no PROGRAM, no HOUSE or no CALM."""
    check_world(program, house)
    check_run(program, house, calm)


def check_letter(program, house, calm, hand, at):
    """Refuses a hand and a round of which the CALM has no letter."""
    if not is_hand(hand, house[0]) or not is_integer(at) or not 1 <= at <= many_sent(program, calm[hand]):
        raise NoLetter((hand, at))


# A run is reckoned round by round: what is heard in a round was sent in it by cells of the round ahead.


def send_round(program, house, calm, at, sends, cells):
    """Puts to sends what each hand sends in round at."""
    for hand, entry in enumerate(calm):
        if many_sent(program, entry) >= at:
            sends[hand].append(value_sent(program, house, hand, at, cells[hand]))


def hear_round(program, house, calm, at, sends, cells):
    """Puts the cells of each hand that heard a lot in round at anew."""
    for hand, entry in enumerate(calm):
        if entry is not None and len(entry[1]) >= at:
            heard = tuple([(other, sends[other][at - 1]) for other in entry[1][at - 1]])
            cells[hand] = cells_later(program, house, hand, at, cells[hand], heard)


def reckoned(program, house, calm):
    """Two lists by hands: what each one sent, and its cells behind its last lot, None for None."""
    sends = [[] for _ in calm]
    cells = [None if entry is None else first_cells(program, entry[0]) for entry in calm]
    for at in range(1, program.rounds + 1):
        send_round(program, house, calm, at, sends, cells)
        hear_round(program, house, calm, at, sends, cells)
    return sends, cells


def claim_of(entry, at):
    """What a hand with this ENTRY claims in its letter of round at."""
    return entry[0] if at == 1 else entry[1][at - 2]


def leaned_on(calm, keeps):
    """The least CALM within calm in which each hand has lots for as many letters as keeps tells (0 for None).

    Letters lean on letters of lesser rounds alone: so the rounds are gone through from the last one on.
    """
    wanted = list(keeps)
    for at in range(max(wanted) - 1, 0, -1):
        for hand, entry in enumerate(calm):
            if wanted[hand] > at:
                for other in entry[1][at - 1]:
                    wanted[other] = max(wanted[other], at)
    return tuple([(entry[0], entry[1][: many - 1]) if many > 0 else None for entry, many in zip(calm, wanted)])


def known(calm, hand):
    """What this hand can know of a right CALM."""
    keeps = [0] * len(calm)
    if calm[hand] is not None:
        keeps[hand] = len(calm[hand][1]) + 1
    return leaned_on(calm, keeps)


def has_all(elder, newer):
    """Whether an ENTRY has all of an elder one."""
    if elder is None:
        return True
    return newer is not None and newer[0] == elder[0] and newer[1][: len(elder[1])] == elder[1]


def lots_open(program, house, calm, hand):
    """The LOTS that this hand can hear next in a right CALM."""
    n, t = house
    entry = calm[hand]
    if entry is None or len(entry[1]) == program.rounds:
        return ()
    at = len(entry[1]) + 1
    ready = [other for other in range(n) if many_sent(program, calm[other]) >= at]
    return tuple([lot for lot in combinations(ready, int(n - t)) if hand in lot])


def with_entry(calm, hand, entry):
    """The CALM with another entry for this hand."""
    return calm[:hand] + (entry,) + calm[hand + 1 :]


def is_calm(program, house, value):
    """Whether any value is a CALM."""
    check_world(program, house)
    return is_run(program, house, value)


def values(program, house, calm):
    """By hands the tuple of the values that it sent, () for None."""
    check_all(program, house, calm)
    sends, _ = reckoned(program, house, calm)
    return tuple([tuple(row) for row in sends])


def cells_of(program, house, calm, hand):
    """The CELLS of this hand behind its last LOT, None for None."""
    check_all(program, house, calm)
    check_hand(hand, house[0])
    _, cells = reckoned(program, house, calm)
    return cells[hand]


def says(program, house, calm):
    """What each hand says that has heard a LOT in each round, None for all others."""
    check_all(program, house, calm)
    _, cells = reckoned(program, house, calm)
    told = [None] * house[0]
    for hand, entry in enumerate(calm):
        if entry is not None and len(entry[1]) == program.rounds:
            told[hand] = value_said(program, house, hand, cells[hand])
    return tuple(told)


def letters(program, house, calm):
    """The ascending tuple of the LETTERS of a CALM."""
    check_all(program, house, calm)
    sends, _ = reckoned(program, house, calm)
    told = []
    for hand, row in enumerate(sends):
        told.extend([(hand, at, value, claim_of(calm[hand], at)) for at, value in enumerate(row, start=1)])
    return tuple(told)


def letter_of(program, house, calm, hand, at):
    """The LETTER of this hand and round."""
    check_all(program, house, calm)
    check_letter(program, house, calm, hand, at)
    sends, _ = reckoned(program, house, calm)
    return (hand, at, sends[hand][at - 1], claim_of(calm[hand], at))


def grown(program, house, elder, newer):
    """Whether newer has all of elder."""
    check_all(program, house, elder)
    check_run(program, house, newer)
    return all([has_all(one, other) for one, other in zip(elder, newer)])


def joined(program, house, one, other):
    """The least CALM that is grown from both."""
    check_all(program, house, one)
    check_run(program, house, other)
    told = []
    for hand in range(house[0]):
        if has_all(one[hand], other[hand]):
            told.append(other[hand])
        elif has_all(other[hand], one[hand]):
            told.append(one[hand])
        else:
            raise Quarrel(hand)
    return tuple(told)


def least(program, house, calm, hand, at):
    """The least CALM within calm that has the LETTER of this hand and round."""
    check_all(program, house, calm)
    check_letter(program, house, calm, hand, at)
    keeps = [0] * house[0]
    keeps[hand] = at
    return leaned_on(calm, keeps)


def knows(program, house, calm, hand):
    """The least CALM within calm in which this hand's entry is as in calm."""
    check_all(program, house, calm)
    check_hand(hand, house[0])
    return known(calm, hand)


def alike(program, house, one, other, hand):
    """Whether this hand knows the same of both."""
    check_all(program, house, one)
    check_run(program, house, other)
    check_hand(hand, house[0])
    return known(one, hand) == known(other, hand)


def options(program, house, calm, hand):
    """The ascending tuple of all LOTS which this hand could hear next."""
    check_all(program, house, calm)
    check_hand(hand, house[0])
    return lots_open(program, house, calm, hand)


def hears(program, house, calm, hand, lot):
    """The CALM in which this hand has heard this LOT next."""
    check_all(program, house, calm)
    check_hand(hand, house[0])
    # True and 1 are equal, so what is no LOT is refused ahead of looking for it.
    if not is_lot(lot, house) or lot not in lots_open(program, house, calm, hand):
        raise BadLot(lot)
    value, lots = calm[hand]
    return with_entry(calm, hand, (value, lots + (lot,)))


def begins(program, house, calm, hand, value):
    """The CALM in which this hand has sent its first letter, with this input."""
    check_all(program, house, calm)
    check_hand(hand, house[0])
    check_input(program, value)
    if calm[hand] is not None:
        raise Begun(hand)
    return with_entry(calm, hand, (value, ()))
