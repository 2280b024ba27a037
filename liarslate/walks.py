"""Walks through the calm runs that are whole for a stop lot: what the hands outside can come to say (section 11).

A walk goes round by round, and keeps of all runs that lead to like cells only one.
"""

from itertools import combinations
from math import comb

from liarslate.texts import all_inputs, cells_later, first_cells, value_said, value_sent


def one_of_each(rows):
    """All lists with one item of each row."""
    found = [[]]
    for row in rows:
        found = [[*told, one] for told in found for one in row]
    return found


def to_power(base, many):
    """So many times base, times one another."""
    found = 1
    for _ in range(many):
        found = found * base
    return found


def breadth(program, house, many):
    """How many runs a stop lot of so many hands has, the inputs of all others being told."""
    n, t = house
    heard = (n - many) * program.rounds + many * (program.rounds - 1)
    return to_power(comb(n - 1, t), heard) * to_power(len(all_inputs(program)), many)


def longer(run, lots):
    """The run in which each hand heard one more lot, None for none."""
    return tuple([
        entry if lot is None else (entry[0], entry[1] + (lot,)) for entry, lot in zip(run, lots)
    ])


def put_runs(found, run, ways):
    """Puts to found, for each choice of ways of all hands, where it leads, and the run that goes there."""
    for row in one_of_each(ways):
        place = tuple([way[0] for way in row])
        if place not in found:
            found[place] = longer(run, [way[1] for way in row])


class Walk:
    """Walks for one program and house. States are runs by the cells of all hands to which they lead."""

    def __init__(self, program, house):
        n, t = house
        self.program = program
        self.house = house
        self.lots_with = [[lot for lot in combinations(range(n), int(n - t)) if hand in lot] for hand in range(n)]
        self.known_cells = {}

    def first_states(self, inputs):
        """The states at first, with any inputs where None is told."""
        states = {}
        for row in one_of_each([all_inputs(self.program) if value is None else [value] for value in inputs]):
            cells = tuple([first_cells(self.program, value) for value in row])
            states[cells] = tuple([(value, ()) for value in row])
        return states

    def cells_behind(self, hand, at, cells, heard):
        """The CELLS of a hand behind hearing this."""
        place = (hand, at, cells, heard)
        if place not in self.known_cells:
            self.known_cells[place] = cells_later(self.program, self.house, hand, at, cells, heard)
        return self.known_cells[place]

    def pairs_sent(self, at, cells):
        """(hand, what it sends in round at) for all hands, by their cells."""
        return [(hand, value_sent(self.program, self.house, hand, at, one)) for hand, one in enumerate(cells)]

    def ways_on(self, hand, at, cells, pairs):
        """The CELLS to which each lot can lead a hand that hears of these pairs, and one lot for each."""
        found = {}
        for lot in self.lots_with[hand]:
            heard = tuple([pairs[other] for other in lot])
            found.setdefault(self.cells_behind(hand, at, cells, heard), lot)
        return found

    def ways_out(self, hand, cells, pairs):
        """What each lot of the last round can lead a hand to say, and one lot for each."""
        found = {}
        for behind, lot in self.ways_on(hand, self.program.rounds, cells, pairs).items():
            found.setdefault(value_said(self.program, self.house, hand, behind), lot)
        return found

    def next_states(self, at, states):
        """The states behind round at, which all hands heard."""
        found = {}
        for cells, run in states.items():
            pairs = self.pairs_sent(at, cells)
            ways = [list(self.ways_on(hand, at, one, pairs).items()) for hand, one in enumerate(cells)]
            put_runs(found, run, ways)
        return found

    def rows(self, lot, inputs):
        """The rows of ends for this stop lot and these inputs, and one run for each."""
        states = self.first_states(inputs)
        for at in range(1, self.program.rounds):
            states = self.next_states(at, states)
        found = {}
        for cells, run in states.items():
            pairs = self.pairs_sent(self.program.rounds, cells)
            ways = [
                [(None, None)] if hand in lot else list(self.ways_out(hand, one, pairs).items())
                for hand, one in enumerate(cells)
            ]
            put_runs(found, run, ways)
        return found
