"""Ends: what honest hands can be brought to say, told by calm runs (section 11)."""

from itertools import combinations

from liarslate.bringing import brought_net
from liarslate.calm import check_world, is_run, letters, says
from liarslate.claims import check_claim, holds, spread_of
from liarslate.crowds import are_inputs, honest_hands
from liarslate.errors import BadCalm, BadInputs, BadMost, BadStopLot, NoBreak, SlateError, Wide
from liarslate.nets import replayed
from liarslate.terms import is_from, is_hands, is_integer
from liarslate.texts import all_inputs
from liarslate.walks import breadth, one_of_each, to_power, Walk

GREATEST_MOST = 200000
ALL_HOLD = ("holds",)


def is_stop_lot(value, house):
    """Whether value is a stop lot of a HOUSE."""
    n, t = house
    return is_hands(value, n) and len(value) <= t


def check_stop_lot(lot, house):
    """Refuses what is no stop lot of a HOUSE."""
    if not is_stop_lot(lot, house):
        raise BadStopLot(lot)


def check_most(most):
    """Refuses what can't bound a breadth."""
    if not is_from(most, 1, GREATEST_MOST):
        raise BadMost(most)


def check_lot_and_inputs(program, house, lot, inputs):
    """Refuses what is no PROGRAM, no HOUSE, no stop lot, or no inputs of the hands outside."""
    check_world(program, house)
    check_stop_lot(lot, house)
    if not are_inputs(program, house, inputs, lot):
        raise BadInputs(inputs)


def check_breadth(program, house, lot, most):
    """Refuses a bound that is none, or too narrow for this lot."""
    check_most(most)
    if breadth(program, house, len(lot)) > most:
        raise Wide(most)


def lots_of_stops(house):
    """All stop lots of t hands, ascending."""
    n, t = house
    return list(combinations(range(n), int(t)))


def check_all_lots(program, house, claim, most):
    """Refuses what can't be asked of all lots and inputs."""
    check_world(program, house)
    check_claim(claim)
    check_most(most)
    n, t = house
    starts = to_power(len(all_inputs(program)), n - t)
    if breadth(program, house, t) * len(lots_of_stops(house)) * starts > most:
        raise Wide(most)


def is_whole(program, house, lot, value):
    """Whether any value is a CALM that is whole for a lot."""
    if not is_run(program, house, value):
        return False
    outside = [entry for hand, entry in enumerate(value) if hand not in lot]
    return all([entry is not None and len(entry[1]) == program.rounds for entry in outside])


def inputs_outside(lot, calm):
    """The inputs of the hands outside, of a CALM that is whole for the lot."""
    return tuple([None if hand in lot else entry[0] for hand, entry in enumerate(calm)])


def row_of(program, house, lot, calm):
    """The row of ends of a CALM that is whole for the lot."""
    return tuple([None if hand in lot else end for hand, end in enumerate(says(program, house, calm))])


def rows_of(program, house, lot, inputs):
    """The rows of ends, ascending."""
    found = Walk(program, house).rows(lot, inputs)
    # None stands at like places in all rows: so no None is compared with a number.
    return sorted(list(found))


def ends(program, house, lot, inputs, most):
    """The ascending tuple of all rows of ends."""
    check_lot_and_inputs(program, house, lot, inputs)
    check_breadth(program, house, lot, most)
    return tuple(rows_of(program, house, lot, inputs))


def spans(program, house, lot, inputs, most):
    """(least, greatest) of how far what is said lies apart."""
    check_lot_and_inputs(program, house, lot, inputs)
    check_breadth(program, house, lot, most)
    rows = rows_of(program, house, lot, inputs)
    told = [spread_of([end for end in row if end is not None]) for row in rows]
    return (min(told), max(told))


def check_claimed(program, house, lot, inputs, claim, most):
    """Refuses what can't be asked of a claim."""
    check_lot_and_inputs(program, house, lot, inputs)
    check_claim(claim)
    check_breadth(program, house, lot, most)


def run_against(walk, lot, inputs, claim):
    """A CALM of whose row of ends the claim does not hold (None without), and how many rows there are."""
    found = walk.rows(lot, inputs)
    for row, run in found.items():
        if not holds(claim, row, inputs):
            return run, len(found)
    return None, len(found)


def claimed(program, house, lot, inputs, claim, most):
    """("holds", how many rows of ends there are), or ("breaks", a CALM of whose row the claim does not hold)."""
    check_claimed(program, house, lot, inputs, claim, most)
    run, many = run_against(Walk(program, house), lot, inputs, claim)
    return ("holds", many) if run is None else ("breaks", run)


def is_against(program, house, lot, claim, value):
    """Whether any value is a CALM that is whole for the lot, of whose row of ends the claim does not hold."""
    if not is_whole(program, house, lot, value):
        return False
    return not holds(claim, row_of(program, house, lot, value), inputs_outside(lot, value))


def shows_claimed(program, house, lot, inputs, claim, most, value):
    """Whether any value is right as what claimed tells."""
    check_claimed(program, house, lot, inputs, claim, most)
    if not isinstance(value, tuple) or len(value) != 2:
        return False
    if value[0] == "breaks":
        return is_against(program, house, lot, claim, value[1]) and inputs_outside(lot, value[1]) == inputs
    if value[0] != "holds" or not is_integer(value[1]):
        return False
    return run_against(Walk(program, house), lot, inputs, claim) == (None, value[1])


def first_against(program, house, claim):
    """(lot, CALM) of the first CALM that is found of whose row of ends the claim does not hold, None without."""
    walk = Walk(program, house)
    for lot in lots_of_stops(house):
        values = [[None] if hand in lot else all_inputs(program) for hand in range(house[0])]
        for inputs in one_of_each(values):
            run, _ = run_against(walk, lot, tuple(inputs), claim)
            if run is not None:
                return (lot, run)
    return None


def for_all(program, house, claim, most):
    """("holds",) for all lots of t hands and all inputs, or ("breaks", lot, CALM)."""
    check_all_lots(program, house, claim, most)
    found = first_against(program, house, claim)
    return ALL_HOLD if found is None else ("breaks", *found)


def shows_for_all(program, house, claim, most, value):
    """Whether any value is right as what for_all tells."""
    check_all_lots(program, house, claim, most)
    if not isinstance(value, tuple):
        return False
    if value == ALL_HOLD:
        return first_against(program, house, claim) is None
    if len(value) != 3 or value[0] != "breaks" or not is_stop_lot(value[1], house) or len(value[1]) != house[1]:
        return False
    return is_against(program, house, value[1], claim, value[2])


def check_brought(program, house, lot, calm):
    """Refuses what no net can be brought into."""
    check_world(program, house)
    check_stop_lot(lot, house)
    if not is_whole(program, house, lot, calm):
        raise BadCalm(calm)


def brought(program, house, lot, calm):
    """A LOG behind which each hand outside has heard just its lots of a CALM, and used no other letters."""
    check_brought(program, house, lot, calm)
    return brought_net(program, house, lot, calm).log


def net_behind(program, house, inputs, liars, log):
    """The Net behind a LOG, None if it can't be done."""
    try:
        return replayed(program, house, inputs, liars, log)
    except SlateError:
        return None


def shows_brought(program, house, lot, calm, value):
    """Whether any value is right as what brought tells."""
    check_brought(program, house, lot, calm)
    net = net_behind(program, house, inputs_outside(lot, calm), lot, value)
    if net is None:
        return False
    told = letters(program, house, calm)
    return all([
        net.lots(hand) == calm[hand][1] and all([letter in told for letter in net.used(hand)])
        for hand in honest_hands(net)
    ])


def check_break(program, house, claim, most):
    """(lot, CALM) of a break; refuses what can't be asked of all nets, and a claim that is not broken."""
    check_all_lots(program, house, claim, most)
    found = first_against(program, house, claim)
    if found is None:
        raise NoBreak(None)
    return found


def net_break(program, house, claim, most):
    """(inputs, liars, log) of a Net behind which all honest hands have said, and the claim does not hold."""
    lot, calm = check_break(program, house, claim, most)
    net = brought_net(program, house, lot, calm)
    return (net.inputs, lot, net.log)


def shows_net_break(program, house, claim, most, value):
    """Whether any value is right as what net_break tells."""
    check_break(program, house, claim, most)
    if not isinstance(value, tuple) or len(value) != 3:
        return False
    net = net_behind(program, house, value[0], value[1], value[2])
    if net is None or None in [net.says[hand] for hand in honest_hands(net)]:
        return False
    return not holds(claim, net.says, net.inputs)
