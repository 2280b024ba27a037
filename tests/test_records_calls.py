"""What the functions of records.py refuse, and in which sequence (sections 2 and 15)."""

import unittest

from liarslate.errors import BadHand, BadHouse, BadRecord, BadStopLot, Kept, NoProgram
from liarslate.nets import Net
from liarslate.records import explains, first_lie, inputs_of, is_record, kept, liars_in, record
from liarslate.texts import Program
from tests.helpers import Case, HALVES, odd_values
from tests.test_nets_calls import BAD_LETTERS, BAD_SLIPS
from tests.test_texts_calls import BAD_HOUSES

PROGRAM = Program(HALVES)
HOUSE = (4, 1)
ROW = (0, 1, ("said", (0, 1, 4, 4)))
LIE = (0, 2, ("said", (0, 1, 5, 5)))
ROWS = (ROW, LIE)
GOOD = [PROGRAM, HOUSE, ROWS]
CALLS = ((kept, GOOD), (liars_in, GOOD), (inputs_of, GOOD + [1]), (explains, GOOD + [(0,)]), (first_lie, GOOD + [0]))
BAD_ROWS = [value for value in odd_values()] + [
    5, ROW[:2], ROW + (0,), list(ROW), (0, 0, ROW[2]), (1, 1, ROW[2]), (4, 1, ROW[2]), (0, 4, ROW[2]), (-1, 1, ROW[2]),
    (0, -1, ROW[2]), (True, 0, ROW[2]), (0, True, ROW[2]), (None, 1, ROW[2]), (0, None, ROW[2]), ("0", 1, ROW[2]),
    (0, "1", ROW[2]), ((0,), 1, ROW[2]), (ROW[2], 0, 1), (0, 1, ROW), (False, 1, ROW[2]),
] + [(0, 1, slip) for slip in BAD_SLIPS] + [(0, 1, ("echo", letter)) for letter in BAD_LETTERS]


class Refusals(Case):
    def test_programs_and_houses(self):
        wrong = [value for value in odd_values() if not isinstance(value, Program)] + [0, HALVES, (PROGRAM,)]
        for call, good in CALLS + ((is_record, GOOD),):
            self.refuses_each(NoProgram, call, wrong, good, 0)
            self.refuses_each(BadHouse, call, BAD_HOUSES, good, 1)

    def test_records(self):
        wrong = [value for value in odd_values() if value != ()] + [
            5, list(ROWS), ROW, {0: ROW}, (ROWS,), ROWS + ([],), [ROW],
        ]
        for call, good in CALLS:
            self.refuses_each(BadRecord, call, wrong, good, 2)
        for value in wrong:
            self.assertIs(is_record(PROGRAM, HOUSE, value), False)
        for row in BAD_ROWS:
            for rows in ((row,), ROWS + (row,), (row,) + ROWS):
                self.assertIs(is_record(PROGRAM, HOUSE, rows), False, rows)
            for call, good in CALLS[:2]:
                self.refuses(BadRecord, (row,), call, PROGRAM, HOUSE, (row,))
        for rows in ((), ROWS, (ROW,) * 3):
            self.assertIs(is_record(PROGRAM, HOUSE, rows), True)

    def test_rounds_of_the_program(self):
        second = ((0, 1, ("said", (0, 2, 4, (0, 1, 2)))),)
        self.assertIs(is_record(PROGRAM, HOUSE, second), True)
        one = Program("inputs 0 9\ncells x\nround x\nsay x")
        self.assertIs(is_record(one, HOUSE, second), False)
        self.refuses(BadRecord, second, kept, one, HOUSE, second)

    def test_hands(self):
        for call, good in (CALLS[2], CALLS[4]):
            self.refuses_each(BadHand, call, odd_values() + [-1, 4], good, 3)
        for hand in range(4):
            self.assertIsInstance(inputs_of(*GOOD, hand), tuple)

    def test_lots(self):
        wrong = [value for value in odd_values() if value not in ((), (0,))] + [
            0, [0], (4,), (-1,), (0, 1), (1, 0), (True,), (None,), ("0",), ((0,),), {0: 0},
        ]
        self.refuses_each(BadStopLot, explains, wrong, GOOD + [()], 3)
        for lot, told in (((), False), ((0,), True), ((1,), False), ((3,), False)):
            self.assertIs(explains(*GOOD, lot), told)
        for lot in ((0, 1), (5, 6), (0, 6)):
            self.assertIs(explains(PROGRAM, (7, 2), (), lot), True)
        self.refuses(BadStopLot, (0, 1, 2), explains, PROGRAM, (7, 2), (), (0, 1, 2))
        self.refuses(BadStopLot, (0,), explains, PROGRAM, (4, 0), (), (0,))

    def test_kept(self):
        for hand in (1, 2, 3):
            self.refuses(Kept, hand, first_lie, *GOOD, hand)
        self.assertEqual(first_lie(*GOOD, 0), 1)
        self.refuses(Kept, 0, first_lie, PROGRAM, HOUSE, ROWS[:1], 0)

    def test_sequence(self):
        first = [(0, None, NoProgram, None), (1, (3, 1), BadHouse, (3, 1)), (2, [ROW], BadRecord, [ROW])]
        for call, good in CALLS[:2]:
            self.refuses_in_sequence(call, good, first)
        self.refuses_in_sequence(inputs_of, GOOD + [1], first + [(3, True, BadHand, True)])
        self.refuses_in_sequence(first_lie, GOOD + [0], first + [(3, 4, BadHand, 4)])
        self.refuses_in_sequence(explains, GOOD + [(0,)], first + [(3, (4,), BadStopLot, (4,))])
        self.refuses_in_sequence(is_record, GOOD, first[:2])

    def test_by_name(self):
        named = {"record": ROWS, "house": HOUSE, "program": PROGRAM}
        self.assertEqual((kept(**named), liars_in(**named)), ((1, 2, 3), (0,)))
        self.assertEqual((inputs_of(hand=0, **named), first_lie(hand=0, **named)), ((), 1))
        self.assertIs(explains(lot=(0,), **named), True)
        self.assertIs(is_record(value=ROWS, house=HOUSE, program=PROGRAM), True)
        self.assertEqual(record(net=Net(PROGRAM, HOUSE, (0, 4, 8, None), (3,))), ())

    def test_kinds_of_results(self):
        net = Net(PROGRAM, HOUSE, (0, 4, 8, None), (3,))
        net.rest()
        for value in (record(net), record(net)[0], kept(*GOOD), liars_in(*GOOD), inputs_of(*GOOD, 1)):
            self.assertIsInstance(value, tuple)


if __name__ == "__main__":
    unittest.main()
