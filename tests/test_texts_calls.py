"""What the functions of texts.py refuse, and in which sequence (sections 2 and 4)."""

import unittest

from liarslate.errors import BadCells, BadHand, BadHeard, BadHouse, BadInput, BadRound, NoProgram
from liarslate.texts import begun, input_values, later, Program, said, sent
from tests.helpers import Case, HALVES, HOUSES, odd_values

PROGRAM = Program(HALVES)
TWO = Program("inputs -5 5\ncells x y\nround x\nround y\nround 3\nsay x")
HOUSE = (4, 1)
HEARD = ((0, 4), (1, -9999), (3, 9999))
SENT = [PROGRAM, HOUSE, 1, 1, (5,)]
LATER = [PROGRAM, HOUSE, 1, 1, (5,), HEARD]
SAID = [PROGRAM, HOUSE, 1, (5,)]
BAD_HOUSES = odd_values() + [
    4, (4,), (4, 1, 0), [4, 1], (4, True), (True, 0), (1, False), (0, 0), (-1, 0), (8, 0), (8, 2), (1, -1), (3, 1),
    (6, 2), (2, 1),
    (7, 3), (10, 3), (1, 1), (4, None), ("4", 1), (4, "1"), ((4,), 1),
]


class Refusals(Case):
    def test_no_program(self):
        wrong = [value for value in odd_values() if not isinstance(value, Program)] + [0, 5, HALVES, (PROGRAM,)]
        for call, good in ((input_values, [PROGRAM]), (begun, [PROGRAM, 3]), (sent, SENT), (later, LATER),
            (said, SAID)):
            for value in wrong:
                self.refuses(NoProgram, value, call, value, *good[1:])

    def test_houses(self):
        for house in HOUSES:
            said(PROGRAM, house, 0, (5,))
        self.assertEqual(len(HOUSES), 7 + 4 + 1)
        for call, good in ((sent, SENT), (later, LATER), (said, SAID)):
            self.refuses_each(BadHouse, call, BAD_HOUSES, good, 1)

    def test_hands(self):
        for house in HOUSES:
            said(PROGRAM, house, house[0] - 1, (5,))
            for hand in (-1, house[0]):
                self.refuses(BadHand, hand, said, PROGRAM, house, hand, (5,))
        for call, good in ((sent, SENT), (later, LATER), (said, SAID)):
            self.refuses_each(BadHand, call, odd_values() + [-1, 4, 7, -4], good, 2)

    def test_rounds(self):
        for program in (PROGRAM, TWO):
            cells = (5,) * len(program.names)
            for at in range(1, program.rounds + 1):
                sent(program, HOUSE, 1, at, cells)
                later(program, HOUSE, 1, at, cells, HEARD)
            for at in odd_values() + [0, -1, program.rounds + 1, 100]:
                self.refuses(BadRound, at, sent, program, HOUSE, 1, at, cells)
                self.refuses(BadRound, at, later, program, HOUSE, 1, at, cells, HEARD)

    def test_cells(self):
        wrong = [value for value in odd_values() if value != (0,)] + [
            5, [5], (5, 5), (10000,), (-10000,), (True,), (False,), (None,), ("5",), ((5,),), "5", {0: 5},
        ]
        for call, good, at in ((sent, SENT, 4), (later, LATER, 4), (said, SAID, 3)):
            self.refuses_each(BadCells, call, wrong, good, at)
            for value in (-9999, 9999):
                call(*good[:at], (value,), *good[at + 1:])
        for cells in ((), (1,), (1, 2, 3), (1, True), (True, 1), (1, 10000), [1, 2]):
            self.refuses(BadCells, cells, said, TWO, HOUSE, 1, cells)
        self.assertEqual(said(TWO, HOUSE, 1, (1, 2)), 1)

    def test_heard(self):
        wrong = odd_values() + [
            HEARD[:2], HEARD + ((4, 1),), ((0, 1), (1, 1), (2, 1), (3, 1)), list(HEARD), HEARD[::-1],
            ((1, 1), (0, 1), (2, 1)),
            ((0, 1), (1, 1), (1, 1)), ((0, 1), (0, 2), (1, 1)), ((0, 1), (2, 1), (3, 1)), ((0, 1), (1, 1), (4, 1)),
            ((-1, 1), (0, 1), (1, 1)),
            ((0, 1), (1, True), (3, 1)), ((0, 1), (True, 1), (3, 1)), ((False, 1), (1, 1), (3, 1)),
            ((0, 1), (1, None), (3, 1)),
            ((0, 1), (1, 10000), (3, 1)), ((0, 1), (1, -10000), (3, 1)), ((0, 1), [1, 1], (3, 1)),
            ((0, 1), (1, 1, 1), (3, 1)),
            ((0, 1), (1,), (3, 1)), (0, 1, 3), ((0, 1), 1, (3, 1)), ((0, 1), None, (3, 1)), ((0, "1"), (1, 1), (3, 1)),
            7,
        ]
        self.refuses_each(BadHeard, later, wrong, LATER, 5)
        for heard in (((0, 1), (1, 1), (2, 1)), ((0, -9999), (1, 9999), (3, 0)), ((1, 1), (2, 1), (3, 1))):
            later(*LATER[:5], heard)
        self.assertEqual(later(PROGRAM, (1, 0), 0, 1, (5,), ((0, 7),)), (7,))
        self.refuses(BadHeard, ((0, 7), (1, 7)), later, PROGRAM, (1, 0), 0, 1, (5,), ((0, 7), (1, 7)))
        self.refuses(BadHeard, ((0, 7),), later, PROGRAM, (2, 0), 0, 1, (5,), ((0, 7),))

    def test_inputs(self):
        for value in range(-5, 6):
            self.assertEqual(begun(TWO, value), (value, 0))
        for value in odd_values() + [-6, 6, 100, -99]:
            self.refuses(BadInput, value, begun, TWO, value)

    def test_sequence(self):
        house, hand = (1, [4, 1], BadHouse, [4, 1]), (2, 4, BadHand, 4)
        at, cells = (3, True, BadRound, True), (4, [5], BadCells, [5])
        none = (0, HALVES, NoProgram, HALVES)
        self.refuses_in_sequence(sent, SENT, [none, house, hand, at, cells])
        self.refuses_in_sequence(later, LATER, [none, house, hand, at, cells, (5, HEARD[:2], BadHeard, HEARD[:2])])
        self.refuses_in_sequence(said, SAID, [none, house, hand, (3, (), BadCells, ())])
        self.refuses_in_sequence(begun, [PROGRAM, 3], [none, (1, None, BadInput, None)])

    def test_by_name(self):
        self.assertEqual(input_values(program=TWO), tuple(range(-5, 6)))
        self.assertEqual(begun(value=3, program=TWO), (3, 0))
        self.assertEqual(sent(cells=(5,), at=1, hand=1, house=HOUSE, program=PROGRAM), 5)
        self.assertEqual(later(heard=HEARD, cells=(5,), at=1, hand=1, house=HOUSE, program=PROGRAM), (0,))
        self.assertEqual(said(cells=(5,), hand=1, house=HOUSE, program=PROGRAM), 5)
        self.refuses(BadHeard, None, later, PROGRAM, HOUSE, 1, 1, (5,), heard=None)

    def test_wrong_values_are_not_changed(self):
        cells, heard = [5], [[0, 1], [1, 1], [3, 1]]
        self.refuses(BadCells, [5], sent, PROGRAM, HOUSE, 1, 1, cells)
        self.refuses(BadHeard, [[0, 1], [1, 1], [3, 1]], later, PROGRAM, HOUSE, 1, 1, (5,), heard)
        self.assertEqual((cells, heard), ([5], [[0, 1], [1, 1], [3, 1]]))


if __name__ == "__main__":
    unittest.main()
