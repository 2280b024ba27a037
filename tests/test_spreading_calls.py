"""What Spreads and usual refuse, in which sequence, and what Spreads are equal to (sections 2 and 6)."""

import unittest

from liarslate.errors import (
    BadCounts, BadHand, BadKind, BadLiar, BadLiars, BadNumber, BadStops, BadValue, NoSlip,
)
from liarslate.spreading import Spread, usual
from liarslate.texts import Program
from tests.helpers import Case, HALVES, odd_values
from tests.test_spreading import state

GOOD = [4, (3, 2, 3), (3,), 0, 5]
LIAR = [4, (3, 2, 3), (0, 3), 0, None]


class Making(Case):
    def test_numbers(self):
        for n in range(2, 13):
            self.assertEqual(Spread(n, (1, 1, 1), (), n - 1, 0).n, n)
            usual(n, 0)
        wrong = odd_values() + [-1, 0, 1, 13, 100]
        self.refuses_each(BadNumber, Spread, wrong, GOOD, 0)
        self.refuses_each(BadNumber, usual, wrong, [4, 1], 0)

    def test_counts(self):
        for counts in ((1, 1, 1), (20, 20, 20), (1, 20, 7)):
            self.assertEqual(Spread(4, counts, (), 0, 5).counts, counts)
        wrong = odd_values() + [
            3, (3, 2), (3, 2, 3, 1), [3, 2, 3], (0, 1, 1), (1, 0, 1), (1, 1, 0), (21, 1, 1), (1, 21, 1), (1, 1, 21),
            (True, 1, 1),
            (1, True, 1), (1, 1, True), (1, None, 1), ("1", 1, 1), (-1, 1, 1), ((1, 1, 1),), (1, 1, (1,)),
        ]
        self.refuses_each(BadCounts, Spread, wrong, GOOD, 1)

    def test_liars(self):
        for n in (2, 4, 12):
            for many in range(n):
                liars = tuple(range(1, many + 1))
                self.assertEqual(Spread(n, (1, 1, 1), liars, 0, 5).liars, liars)
            self.refuses(BadLiars, tuple(range(n)), Spread, n, (1, 1, 1), tuple(range(n)), 0, None)
        wrong = [value for value in odd_values() if value not in ((), (0,))] + [
            3, [3], [], (4,), (-1,), (3, 1), (1, 1), (True,), (False, 3), (0, True), (1, None), ("3",), ((3,),),
            (0, 1, 2, 3), {3: 3}, "3",
        ]
        self.refuses_each(BadLiars, Spread, wrong, GOOD, 2)

    def test_first(self):
        for first in (0, 1, 2):
            self.assertEqual(Spread(4, (3, 2, 3), (3,), first, 5).first, first)
        self.refuses_each(BadHand, Spread, odd_values() + [-1, 4, 12], GOOD, 3)

    def test_values(self):
        for value in (0, 1, 99):
            self.assertEqual(Spread(4, (3, 2, 3), (3,), 0, value).echoes[0], value)
        self.refuses_each(BadValue, Spread, odd_values() + [-1, 100], GOOD, 4)
        wrong = [value for value in odd_values() if value is not None] + [0, 5, -1]
        self.refuses_each(BadValue, Spread, wrong, LIAR, 4)
        self.assertEqual(Spread(*LIAR).echoes, (None,) * 4)

    def test_stops(self):
        for n in range(2, 13):
            for t in range(10):
                if t < n:
                    usual(n, t)
                else:
                    self.refuses(BadStops, t, usual, n, t)
            for t in odd_values() + [-1, 10, 12, n]:
                self.refuses(BadStops, t, usual, n, t)
        self.assertEqual(usual(12, 9), (11, 10, 19))
        self.assertEqual(usual(n=3, t=0), (2, 1, 1))

    def test_sequence(self):
        wrongs = [
            (0, True, BadNumber, True), (1, [3, 2, 3], BadCounts, [3, 2, 3]), (2, (4,), BadLiars, (4,)),
            (3, 4, BadHand, 4),
        ]
        self.refuses_in_sequence(Spread, GOOD, wrongs + [(4, 100, BadValue, 100)])
        self.refuses_in_sequence(Spread, LIAR, wrongs + [(4, 5, BadValue, 5)])
        self.refuses_in_sequence(usual, [4, 1], [(0, 13, BadNumber, 13), (1, 4, BadStops, 4)])
        self.refuses(BadStops, True, usual, 4, True)

    def test_by_name(self):
        told = Spread(value=5, first=0, liars=(3,), counts=(3, 2, 3), n=4)
        self.assertTrue(told == Spread(*GOOD))
        self.assertEqual(told.lie(value=1, kind="said", to=2, liar=3), 4)
        self.assertIsNone(told.deliver(number=0))
        self.assertEqual(told.heard(hand=1)[0], 5)


class Deeds(Case):
    def setUp(self):
        self.spread = Spread(5, (3, 2, 3), (1, 4), 0, 5)
        self.spread.lie(1, 2, "promise", 8)
        self.spread.deliver(0)
        self.before = state(self.spread)

    def tearDown(self):
        self.assertEqual(state(self.spread), self.before)

    def test_no_slip(self):
        for number in odd_values() + [0, -1, 9, 100]:
            self.refuses(NoSlip, number, self.spread.deliver, number)

    def test_no_slip_where_true_could_be_one(self):
        spread = Spread(4, (3, 2, 3), (), 0, 5)
        for number in (True, False, None, "0", (0,), [0], {}):
            self.refuses(NoSlip, number, spread.deliver, number)
        self.assertEqual((len(spread), len(spread.under_way)), (0, 6))

    def test_lies(self):
        good = [1, 2, "echo", 7]
        self.refuses_each(BadLiar, self.spread.lie, odd_values() + [0, 2, 3, 5, -1], good, 0)
        self.refuses_each(BadHand, self.spread.lie, odd_values() + [1, 4, 5, -1], good, 1)
        kinds = [value for value in odd_values() if value != "said"]
        kinds += [0, "Said", "taken", "shown", "echoes", ("said",), b"said"]
        self.refuses_each(BadKind, self.spread.lie, kinds, good, 2)
        self.refuses_each(BadValue, self.spread.lie, odd_values() + [-1, 100, 1000], good, 3)
        twin = self.spread.copy()
        wrongs = [
            (0, True, BadLiar, True), (1, 4, BadHand, 4), (2, ["echo"], BadKind, ["echo"]), (3, 100, BadValue, 100),
        ]
        self.refuses_in_sequence(twin.lie, good, wrongs)
        self.assertEqual(twin.log[-1], ("lie", 1, 2, "echo", 7))
        for kind in ("said", "echo", "promise"):
            for value in (0, 99):
                self.assertEqual(twin.under_way[-1][0] + 1, twin.lie(4, 3, kind, value))
                self.assertEqual(twin.under_way[-1][1:], (4, 3, kind, value))

    def test_no_liars(self):
        spread = Spread(2, (1, 1, 1), (), 0, 5)
        for liar in (0, 1, None, True):
            self.refuses(BadLiar, liar, spread.lie, liar, 1, "said", 5)

    def test_heard(self):
        for hand in odd_values() + [1, 4, 5, -1]:
            self.refuses(BadHand, hand, self.spread.heard, hand)
        for hand in (0, 2, 3):
            self.assertEqual(len(self.spread.heard(hand)), 3)

    def test_results_are_tuples(self):
        told = self.spread
        for value in (told.under_way, told.echoes, told.promises, told.takings, told.log, told.counts, told.liars,
            told.heard(2)):
            self.assertIsInstance(value, tuple)
        for row in told.under_way + told.log + told.heard(2)[1:]:
            self.assertIsInstance(row, tuple)

    def test_refused_deeds_put_no_number_by(self):
        twin = self.spread.copy()
        self.refuses(BadValue, None, twin.lie, 1, 2, "echo", None)
        self.assertEqual(twin.lie(1, 2, "echo", 3), self.spread.copy().lie(1, 2, "echo", 3))


class Equality(Case):
    def test_equal_by_all_it_is_made_of(self):
        base = Spread(5, (3, 2, 3), (4,), 0, 5)
        self.assertTrue(base == Spread(5, (3, 2, 3), (4,), 0, 5))
        self.assertFalse(base != Spread(5, (3, 2, 3), (4,), 0, 5))
        for other in (
            Spread(6, (3, 2, 3), (4,), 0, 5), Spread(5, (3, 2, 4), (4,), 0, 5), Spread(5, (3, 2, 3), (3,), 0, 5),
            Spread(5, (3, 2, 3), (), 0, 5),
            Spread(5, (3, 2, 3), (4,), 1, 5), Spread(5, (3, 2, 3), (4,), 0, 6), Spread(5, (3, 2, 3), (4,), 4, None),
        ):
            self.assertFalse(base == other)
            self.assertTrue(base != other)
        for other in (None, 5, (), base.log, "", Program(HALVES), [base]):
            self.assertFalse(base == other)
            self.assertTrue(base != other)
            self.assertFalse(other == base)

    def test_equal_by_logs(self):
        one, other = Spread(*GOOD), Spread(*GOOD)
        one.deliver(0)
        self.assertFalse(one == other)
        other.deliver(1)
        self.assertFalse(one == other)
        one.deliver(1)
        other.deliver(0)
        self.assertFalse(one == other)
        third = Spread(*GOOD)
        third.deliver(0)
        third.deliver(1)
        self.assertTrue(one == third)
        third.lie(3, 1, "said", 7)
        one.lie(3, 1, "said", 8)
        self.assertTrue(one != third)

    def test_length(self):
        spread = Spread(*GOOD)
        self.assertEqual(len(spread), 0)
        spread.lie(3, 1, "said", 7)
        self.assertEqual(len(spread), 1)
        many = spread.rest()
        self.assertEqual((len(spread), len(spread.log)), (1 + many, 1 + many))

    def test_other_operators(self):
        spread = Spread(*GOOD)
        for deed in (
            lambda: spread < spread, lambda: spread + spread, lambda: 5 in spread, lambda: spread[0], lambda: -spread,
            lambda: list(spread), lambda: spread | spread,
        ):
            with self.assertRaises(TypeError):
                deed()


if __name__ == "__main__":
    unittest.main()
