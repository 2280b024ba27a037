"""What Nets, replayed and back refuse, in which sequence, and what Nets are equal to (sections 2 and 8)."""

import unittest

from liarslate.errors import (
    BadHand, BadHouse, BadInputs, BadLiar, BadLiars, BadLog, BadMany, BadRound, BadSlip, NoProgram, NoSlip,
)
from liarslate.nets import back, Net, replayed
from liarslate.spreading import Spread
from liarslate.texts import Program
from tests.helpers import Case, HALVES, HOUSES, odd_values
from tests.net_helpers import honest_of, state
from tests.test_texts_calls import BAD_HOUSES

PROGRAM = Program(HALVES)
HOUSE = (4, 1)
GOOD = [PROGRAM, HOUSE, (0, 4, 8, None), (3,)]
LETTER = (3, 1, 9, 9)
SLIP = ("echo", LETTER)
LOG = (("lie", 3, 1, SLIP), ("deliver", 12), ("deliver", 0))
BAD_LETTERS = odd_values() + [
    5, LETTER[:3], LETTER + (0,), list(LETTER), (LETTER,), (4, 1, 9, 9), (-1, 1, 9, 9), (True, 1, 9, 9),
    (None, 1, 9, 9), ("3", 1, 9, 9), ((3,), 1, 9, 9), (3, 0, 9, 9), (3, 3, 9, 9), (3, True, 9, 9), (3, None, 9, 9),
    (3, 1, 10000, 9), (3, 1, -10000, 9), (3, 1, True, 9), (3, 1, None, 9), (3, 1, (9,), 9), (3, 1, 9, 10000),
    (3, 1, 9, -10000), (3, 1, 9, True), (3, 1, 9, False), (3, 1, 9, None), (3, 1, 9, "9"), (3, 1, 9, [0, 1]),
    (3, 1, 9, (1, 0)), (3, 1, 9, (1, 1)), (3, 1, 9, (4,)), (3, 1, 9, (-1,)), (3, 1, 9, (True,)), (3, 1, 9, (0, True)),
    (3, 1, 9, (0, 1, 2, 3, 4)), (3, 1, 9, ((0,),)), (3, 1, 9, (None,)), (3, 1, 9, {0: 1}), (3, 1, 9, PROGRAM),
]
GOOD_LETTERS = [
    (0, 1, 0, 0), (3, 2, 9999, 9999), (3, 2, -9999, -9999), (3, 1, 9, ()), (3, 1, 9, (0, 1, 2, 3)), (3, 2, 9, (2,)),
    (1, 2, 5, (0, 1, 2)), (2, 1, -1, -50),
]
BAD_SLIPS = odd_values() + [
    5, "echo", LETTER, ("echo",), ("echo", LETTER, 0), ["echo", LETTER], ("Echo", LETTER), ("shown", LETTER),
    (b"echo", LETTER), (1, LETTER), (("echo",), LETTER), (["echo"], LETTER), (None, LETTER), (LETTER, "echo"),
    (PROGRAM, LETTER),
] + [("said", letter) for letter in BAD_LETTERS]


class Making(Case):
    def test_programs_and_houses(self):
        wrong = [value for value in odd_values() if not isinstance(value, Program)] + [0, HALVES, (PROGRAM,)]
        for call, good in ((Net, GOOD), (replayed, GOOD + [LOG])):
            self.refuses_each(NoProgram, call, wrong, good, 0)
            self.refuses_each(BadHouse, call, BAD_HOUSES, good, 1)
        for house in HOUSES:
            self.assertEqual(Net(PROGRAM, house, (1,) * house[0], ()).house, house)

    def test_liars(self):
        wrong = [value for value in odd_values() if value != ()] + [
            3, [3], (4,), (-1,), (3, 2), (2, 3), (3, 3), (True,), (False,), (None,), ("3",), ((3,),), {3: 3},
        ]
        for call, good in ((Net, GOOD), (replayed, GOOD + [LOG])):
            self.refuses_each(BadLiars, call, [value for value in wrong if value != (0,)], good, 3)
        for liars in ((1, 0), (0, 0), (0, 1, 2), (6, 7), (0, True), (True, 2), [0, 1]):
            self.refuses(BadLiars, liars, Net, PROGRAM, (7, 2), (1,) * 7, liars)
        for liars in ((), (0,), (6,), (0, 6), (5, 6)):
            inputs = tuple(None if hand in liars else 1 for hand in range(7))
            self.assertEqual(Net(PROGRAM, (7, 2), inputs, liars).liars, liars)
        self.refuses(BadLiars, (0,), Net, PROGRAM, (4, 0), (None, 1, 1, 1), (0,))
        self.refuses(BadLiars, (0,), Net, PROGRAM, (1, 0), (None,), (0,))

    def test_inputs(self):
        wrong = odd_values() + [
            5, [0, 4, 8, None], (0, 4, 8), (0, 4, 8, None, 0), (0, 4, 8, 0), (None, 4, 8, None), (0, None, 8, None),
            (0, 10, 8, None), (0, -1, 8, None), (0, True, 8, None), (False, 4, 8, None), (0, "4", 8, None),
            (0, (4,), 8, None), (0, 4, 8, False), (0, 4, None, 8), {0: 0, 1: 4, 2: 8, 3: None},
        ]
        for call, good in ((Net, GOOD), (replayed, GOOD + [LOG])):
            self.refuses_each(BadInputs, call, wrong, good, 2)
        for inputs in ((0, 0, 0, None), (9, 9, 9, None)):
            self.assertEqual(Net(PROGRAM, HOUSE, inputs, (3,)).inputs, inputs)

    def test_sequence(self):
        """Liars are looked at ahead of inputs."""
        wrongs = [
            (0, None, NoProgram, None), (1, (3, 1), BadHouse, (3, 1)), (3, (4,), BadLiars, (4,)),
            (2, (0, 4, 8), BadInputs, (0, 4, 8)),
        ]
        self.refuses_in_sequence(Net, GOOD, wrongs)
        self.refuses_in_sequence(replayed, GOOD + [LOG], wrongs + [(4, [], BadLog, None)])
        self.refuses_in_sequence(replayed, GOOD + [LOG], wrongs + [(4, LOG[1:], BadLog, 0)])

    def test_by_name(self):
        net = Net(liars=(3,), inputs=GOOD[2], house=HOUSE, program=PROGRAM)
        self.assertEqual(net.lie(slip=SLIP, to=1, liar=3), 12)
        self.assertIsNone(net.deliver(number=12))
        self.assertEqual(net.heard(at=1, other=3, hand=1), (None, ((3, LETTER),), ()))
        for call in (net.taken, net.used, net.lots, net.cells, net.at_round):
            self.assertEqual(call(hand=1), call(1))
        self.assertTrue(replayed(log=net.log, liars=(3,), inputs=GOOD[2], house=HOUSE, program=PROGRAM) == net)
        self.assertEqual(back(many=1, net=net).log, net.log[:1])


class Deeds(Case):
    def setUp(self):
        self.net = replayed(*GOOD, LOG)
        self.before = state(self.net)

    def tearDown(self):
        """A call that raises changes nothing."""
        self.assertEqual(state(self.net), self.before)

    def test_no_slip(self):
        for number in odd_values() + [0, 12, -1, 99]:
            self.refuses(NoSlip, number, self.net.deliver, number)
        fresh = Net(*GOOD)
        for number in (True, False):
            self.refuses(NoSlip, number, fresh.deliver, number)
        self.assertEqual((len(fresh), len(fresh.under_way)), (0, 12))

    def test_lies(self):
        good = [3, 1, SLIP]
        self.refuses_each(BadLiar, self.net.lie, odd_values() + [0, 2, 4, -1], good, 0)
        self.refuses_each(BadHand, self.net.lie, odd_values() + [3, 4, -1], good, 1)
        self.refuses_each(BadSlip, self.net.lie, BAD_SLIPS, good, 2)
        twin = self.net.copy()
        self.refuses_in_sequence(twin.lie, good, [
            (0, True, BadLiar, True), (1, 3, BadHand, 3), (2, ("echo", LETTER[:3]), BadSlip, ("echo", LETTER[:3])),
        ])
        for letter in GOOD_LETTERS:
            for kind in ("said", "echo", "promise"):
                number = twin.lie(3, 2, (kind, letter))
                self.assertEqual(twin.under_way[-1], (number, 3, 2, (kind, letter)))

    def test_no_liars(self):
        net = Net(PROGRAM, HOUSE, (1, 1, 1, 1), ())
        for liar in (0, 3, None, True, False):
            self.refuses(BadLiar, liar, net.lie, liar, 1, SLIP)
        self.assertEqual((net.log, net.sent), ((), 24))

    def test_true_is_not_1(self):
        net = Net(PROGRAM, HOUSE, (0, None, 8, 9), (1,))
        self.refuses(BadLiar, True, net.lie, True, 0, SLIP)
        self.refuses(BadHand, False, net.lie, 1, False, SLIP)
        self.assertEqual(len(net), 0)

    def test_refused_lies_put_no_number_by(self):
        twin = self.net.copy()
        self.refuses(BadSlip, None, twin.lie, 3, 1, None)
        self.assertEqual(twin.lie(3, 1, SLIP), self.net.copy().lie(3, 1, SLIP))

    def test_hands(self):
        for hand in odd_values() + [3, 4, -1]:
            for call in (self.net.taken, self.net.used, self.net.lots, self.net.cells, self.net.at_round):
                self.refuses(BadHand, hand, call, hand)
        self.refuses_each(BadHand, self.net.heard, odd_values() + [3, 4, -1], [0, 3, 1], 0)
        self.refuses_each(BadHand, self.net.heard, odd_values() + [4, -1], [0, 3, 1], 1)
        self.refuses_each(BadRound, self.net.heard, odd_values() + [0, 3, -1], [0, 3, 1], 2)
        self.refuses_in_sequence(self.net.heard, [0, 3, 2], [
            (0, True, BadHand, True), (1, 4, BadHand, 4), (2, 3, BadRound, 3),
        ])
        for hand in (0, 1, 2):
            for other in range(4):
                for at in (1, 2):
                    self.assertEqual(len(self.net.heard(hand, other, at)), 3)

    def test_results_are_tuples(self):
        net = self.net.copy()
        net.rest()
        for told in (self.net, net):
            for value in (told.under_way, told.says, told.log, told.inputs, told.liars, told.house):
                self.assertIsInstance(value, tuple)
            for hand in honest_of(told):
                for value in (told.taken(hand), told.used(hand), told.lots(hand), told.cells(hand)):
                    self.assertIsInstance(value, tuple)
                for value in told.taken(hand) + told.used(hand) + told.lots(hand):
                    self.assertIsInstance(value, tuple)
                for value in (told.heard(hand, 1, 1),) + told.heard(hand, 1, 1)[1:]:
                    self.assertIsInstance(value, tuple)
            for row in told.under_way + told.log:
                self.assertIsInstance(row, tuple)

    def test_back(self):
        for many in (1, 2, 3):
            self.assertEqual(back(self.net, many).log, LOG[:3 - many])
        self.refuses_each(BadMany, back, odd_values() + [0, -1, 4, 100], [self.net, 1], 1)
        self.refuses_each(BadMany, back, odd_values() + [0, 1], [Net(*GOOD), 1], 1)


class Logs(Case):
    def test_no_tuple(self):
        for log in odd_values() + [5, list(LOG), "deliver", {0: LOG[0]}]:
            if isinstance(log, tuple) and log != ():
                self.refuses(BadLog, 0, replayed, *GOOD, log)
            elif log != ():
                self.refuses(BadLog, None, replayed, *GOOD, log)
        self.assertEqual(replayed(*GOOD, ()).log, ())

    def test_bent_deeds(self):
        deeds = odd_values() + [
            5, "rest", ("rest",), ("deliver",), ("deliver", 1, 2), ["deliver", 1], ("deliver", 0), ("deliver", 12),
            ("deliver", -1), ("deliver", True), ("deliver", None), ("deliver", "1"), ("deliver", (1,)), ("Deliver", 1),
            (1, "deliver"), ("lie",), ("lie", 3, 1), ("lie", 3, 1, SLIP, 0), ["lie", 3, 1, SLIP], ("lie", 0, 1, SLIP),
            ("lie", 3, 3, SLIP), ("lie", True, 1, SLIP), ("lie", 3, True, SLIP), ("lie", 3, 1, "echo"),
            ("lie", 3, 1, "echo", LETTER), (["lie"], 3, 1, SLIP), (PROGRAM, 1), (None, 3, 1, SLIP),
            ("deliver", 3, 1, SLIP), ("lie", 1),
        ] + [("lie", 3, 1, slip) for slip in BAD_SLIPS]
        for deed in deeds:
            self.refuses(BadLog, 3, replayed, *GOOD, LOG + (deed,))
            self.refuses(BadLog, 3, replayed, *GOOD, LOG + (deed, deed) + LOG)

    def test_the_first_one_is_told(self):
        bad = ("deliver", 99)
        for at in range(4):
            self.refuses(BadLog, at, replayed, *GOOD, LOG[:at] + (bad,) + LOG[at:] + (bad, None))
        self.refuses(BadLog, 0, replayed, *GOOD, LOG[1:])
        self.refuses(BadLog, 2, replayed, *GOOD, (LOG[0], LOG[1], LOG[1]))

    def test_logs_of_other_nets(self):
        net = Net(*GOOD)
        net.rest()
        self.assertTrue(replayed(*GOOD, net.log) == net)
        self.assertEqual(replayed(*GOOD, net.log + LOG[:1]).sent, net.sent + 1)
        self.refuses(BadLog, 12, replayed, PROGRAM, HOUSE, GOOD[2], (3,), tuple(("deliver", at) for at in range(12))
            + (("lie", 0, 1, SLIP),))


class Equality(Case):
    def test_equal_by_all_it_is_made_of(self):
        base = Net(*GOOD)
        self.assertTrue(base == Net(Program(HALVES), HOUSE, (0, 4, 8, None), (3,)))
        self.assertFalse(base != Net(*GOOD))
        for other in (
            Net(Program(HALVES.replace("0 9", "0 8")), *GOOD[1:]),
            Net(PROGRAM, (5, 1), (0, 4, 8, None, 1), (3,)), Net(PROGRAM, HOUSE, (1, 4, 8, None), (3,)),
            Net(PROGRAM, HOUSE, (0, 4, None, 8), (2,)), Net(PROGRAM, HOUSE, (0, 4, 8, 9), ()),
        ):
            self.assertFalse(base == other)
            self.assertTrue(base != other)
        for other in (None, 5, (), base.log, "", PROGRAM, [base], Spread(4, (3, 2, 3), (3,), 0, 5)):
            self.assertFalse(base == other)
            self.assertTrue(base != other)
            self.assertFalse(other == base)

    def test_houses_with_like_counts(self):
        self.assertFalse(Net(PROGRAM, (4, 0), (1,) * 4, ()) == Net(PROGRAM, (4, 1), (1,) * 4, ()))

    def test_equal_by_logs(self):
        one, other = Net(*GOOD), Net(*GOOD)
        one.deliver(0)
        self.assertFalse(one == other)
        other.deliver(1)
        self.assertFalse(one == other)
        one.deliver(1)
        other.deliver(0)
        self.assertFalse(one == other)
        self.assertTrue(one == replayed(*GOOD, (("deliver", 0), ("deliver", 1))))
        twin = one.copy()
        twin.lie(3, 1, SLIP)
        one.lie(3, 1, ("echo", (3, 1, 9, 8)))
        self.assertTrue(one != twin)

    def test_length(self):
        net = Net(*GOOD)
        net.lie(3, 1, SLIP)
        many = net.rest()
        self.assertEqual((len(net), len(net.log)), (1 + many, 1 + many))

    def test_other_operators(self):
        net = Net(*GOOD)
        for deed in (
            lambda: net < net, lambda: net + net, lambda: 5 in net, lambda: net[0], lambda: -net, lambda: list(net),
            lambda: net | net, lambda: net >= 1,
        ):
            with self.assertRaises(TypeError):
                deed()


if __name__ == "__main__":
    unittest.main()
