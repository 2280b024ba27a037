"""What Sealed and the functions of sealing.py refuse, in which sequence (sections 2 and 13)."""

import unittest

from liarslate.errors import (
    BadCount, BadHand, BadKind, BadLiar, BadLiars, BadNumber, BadSeal, BadSentence, BadStops, BadTalk, BadValue, NoSlip,
)
from liarslate.sealing import Sealed, sealed_breaks, sealed_broken, sealed_played, shows_sealed_breaks
from liarslate.spreading import Spread
from tests.helpers import Case, odd_values
from tests.test_sealing import state

GOOD = [4, 3, (3,), 0, 5]
ASKED = [4, 1, 3, "own"]
TALK = ((3,), 0, 5, (("deliver", 0), ("lie", 3, 1, "echo", 7), ("lie", 3, 1, "shown", (5, (0, 1, 3))), ("rest",)))
BAD_COUNTS = odd_values() + [0, -1, 21, 100]


def bent(at, value):
    """The talk with another part."""
    return TALK[:at] + (value,) + TALK[at + 1:]


class Making(Case):
    def test_each(self):
        self.refuses_each(BadNumber, Sealed, odd_values() + [-1, 0, 1, 13], GOOD, 0)
        self.refuses_each(BadCount, Sealed, BAD_COUNTS, GOOD, 1)
        wrong = [value for value in odd_values() if value not in ((), (0,))] + [
            3, [3], (4,), (-1,), (3, 2), (3, 3), (True,), (None,), ("3",), (0, 1, 2, 3), (0, True),
        ]
        self.refuses_each(BadLiars, Sealed, wrong, GOOD, 2)
        self.refuses_each(BadHand, Sealed, odd_values() + [4, -1], GOOD, 3)
        self.refuses_each(BadValue, Sealed, odd_values() + [-1, 100], GOOD, 4)
        odd = [value for value in odd_values() if value is not None]
        self.refuses_each(BadValue, Sealed, odd + [5, 0], [4, 3, (0,), 0, None], 4)
        for n in range(2, 13):
            for count in (1, 20):
                sealed = Sealed(n, count, tuple(range(n - 1)), n - 1, 99)
                self.assertEqual((sealed.n, sealed.needed, sealed.echoes[-1]), (n, count, 99))
        self.assertEqual(Sealed(2, 1, (), 0, 0).takings, (0, None))

    def test_sequence(self):
        self.refuses_in_sequence(Sealed, GOOD, [
            (0, 13, BadNumber, 13), (1, True, BadCount, True), (2, (4,), BadLiars, (4,)), (3, 4, BadHand, 4),
            (4, None, BadValue, None),
        ])

    def test_by_name(self):
        sealed = Sealed(value=5, first=0, liars=(3,), count=3, n=4)
        number = sealed.lie(value=6, kind="echo", to=1, liar=3)
        self.assertIsNone(sealed.deliver(number=number))
        self.assertEqual(sealed.heard(hand=1), (None, ((3, 6),)))
        named = {"sentence": "own", "count": 1, "t": 1, "n": 4}
        talk = sealed_breaks(**named)
        self.assertIs(shows_sealed_breaks(value=talk, **named), True)
        self.assertEqual(sealed_broken(talk=talk, count=1, n=4), ("one", "own"))
        self.assertEqual(sealed_played(talk=talk, count=1, n=4).log, talk[3])


class Deeds(Case):
    def setUp(self):
        self.sealed = Sealed(*GOOD)
        self.sealed.deliver(0)
        self.before = state(self.sealed)

    def tearDown(self):
        """A call that raises changes nothing."""
        self.assertEqual(state(self.sealed), self.before)

    def test_slips(self):
        for number in odd_values() + [0, -1, 99]:
            self.refuses(NoSlip, number, self.sealed.deliver, number)
        fresh = Sealed(*GOOD)
        for number in (True, False):
            self.refuses(NoSlip, number, fresh.deliver, number)

    def test_lies(self):
        good = [3, 1, "echo", 5]
        self.refuses_each(BadLiar, self.sealed.lie, odd_values() + [0, 2, 4, -1], good, 0)
        self.refuses_each(BadHand, self.sealed.lie, odd_values() + [3, 4, -1], good, 1)
        kinds = [value for value in odd_values() if value != "said"]
        self.refuses_each(BadKind, self.sealed.lie, kinds + [0, "promise", "Echo", ("echo",), b"echo"], good, 2)
        for kind in ("said", "echo"):
            wrong = odd_values() + [-1, 100, (5, (0, 1, 3))]
            self.refuses_each(BadValue, self.sealed.lie, wrong, [3, 1, kind, 5], 3)
        twin = self.sealed.copy()
        self.refuses_in_sequence(twin.lie, good, [
            (0, True, BadLiar, True), (1, 3, BadHand, 3), (2, "promise", BadKind, "promise"), (3, 100, BadValue, 100),
        ])
        for kind in ("said", "echo"):
            for value in (0, 99):
                number = twin.lie(3, 2, kind, value)
                self.assertEqual(twin.under_way[-1], (number, 3, 2, kind, value))

    def test_seals(self):
        """Hands 0 and 1 have echoed 5 here, hand 2 nothing yet."""
        good = [3, 2, "shown", (5, (0, 1, 3))]
        self.refuses_each(BadSeal, self.sealed.lie, odd_values() + [
            5, (5,), (5, (0, 1, 3), 0), [5, (0, 1, 3)], (5, [0, 1, 3]), (5, (0, 1)), (5, (0, 1, 2, 3)), (5, (3, 1, 0)),
            (5, (0, 0, 3)), (5, (0, 1, 4)), (5, (-1, 0, 1)), (5, (0, True, 3)), (5, (False, 1, 3)), (5, (0, 1, None)),
            (5, (0, 1, 2)), (5, (0, 2, 3)), (5, (1, 2, 3)), (6, (0, 1, 3)), (True, (0, 1, 3)), (None, (0, 1, 3)),
            (100, (0, 1, 3)), (-1, (0, 1, 3)), ("5", (0, 1, 3)), ((0, 1, 3), 5), (5, 3), (5, ((0, 1, 3),)),
        ], good, 3)
        twin = self.sealed.copy()
        number = twin.lie(*good)
        self.assertEqual(twin.under_way[-1], (number, 3, 2, "shown", (5, (0, 1, 3))))
        twin.deliver(number)
        self.assertEqual(twin.takings, (None, None, 5, None))
        self.refuses(BadHand, 3, twin.lie, 3, 3, "shown", (6, (0, 1, 3)))

    def test_true_is_not_1(self):
        sealed = Sealed(4, 2, (1,), 0, 5)
        self.refuses(BadLiar, True, sealed.lie, True, 0, "echo", 5)
        self.assertEqual((len(sealed), len(sealed.under_way)), (0, 4))

    def test_an_echo_that_comes_later_is_enough_then(self):
        twin = self.sealed.copy()
        self.refuses(BadSeal, (5, (1, 2, 3)), twin.lie, 3, 0, "shown", (5, (1, 2, 3)))
        twin.deliver(1)
        self.assertEqual(twin.echoes[:3], (5, 5, 5))
        twin.lie(3, 0, "shown", (5, (1, 2, 3)))
        twin.lie(3, 0, "shown", (5, (0, 1, 2)))

    def test_liars_echoes_alone(self):
        two = Sealed(4, 2, (2, 3), 0, 5)
        for value in (0, 5, 99):
            two.lie(2, 1, "shown", (value, (2, 3)))
        self.refuses(BadSeal, (6, (0, 3)), two.lie, 2, 1, "shown", (6, (0, 3)))
        for value in odd_values() + [100, -1]:
            self.refuses(BadSeal, (value, (2, 3)), two.lie, 2, 1, "shown", (value, (2, 3)))
        two.lie(2, 1, "shown", (5, (0, 3)))
        huge = Sealed(3, 4, (2,), 0, 5)
        for hands in ((0, 1, 2), (0, 1, 2, 3), (0, 1, 2, 2)):
            self.refuses(BadSeal, (5, hands), huge.lie, 2, 1, "shown", (5, hands))

    def test_hands(self):
        self.refuses_each(BadHand, self.sealed.heard, odd_values() + [3, 4, -1], [0], 0)
        for hand in (0, 1, 2):
            self.assertEqual(len(self.sealed.heard(hand)), 2)

    def test_other_operators(self):
        sealed = self.sealed
        for deed in (
            lambda: sealed < sealed, lambda: sealed + sealed, lambda: 5 in sealed, lambda: sealed[0],
            lambda: list(sealed),
        ):
            with self.assertRaises(TypeError):
                deed()

    def test_results_are_tuples(self):
        sealed = self.sealed
        for value in (sealed.under_way, sealed.echoes, sealed.takings, sealed.log, sealed.liars, sealed.heard(0)):
            self.assertIsInstance(value, tuple)


class Equality(Case):
    def test_by_all_it_is_made_of(self):
        base = Sealed(*GOOD)
        self.assertTrue(base == Sealed(*GOOD))
        self.assertFalse(base != Sealed(*GOOD))
        for other in (
            Sealed(5, 3, (3,), 0, 5), Sealed(4, 2, (3,), 0, 5), Sealed(4, 3, (2,), 0, 5), Sealed(4, 3, (3,), 1, 5),
            Sealed(4, 3, (3,), 0, 6), None, 5, (), Spread(4, (3, 2, 3), (3,), 0, 5), [base],
        ):
            self.assertFalse(base == other)
            self.assertTrue(base != other)
            self.assertFalse(other == base)
        self.assertFalse(Sealed(4, 3, (0, 3), 0, None) == Sealed(4, 3, (0, 3), 3, None))

    def test_by_logs(self):
        one, other = Sealed(*GOOD), Sealed(*GOOD)
        one.deliver(0)
        self.assertFalse(one == other)
        other.deliver(1)
        one.deliver(1)
        other.deliver(0)
        self.assertFalse(one == other)
        twin = one.copy()
        self.assertTrue(twin == one)
        twin.lie(3, 1, "echo", 5)
        one.lie(3, 1, "echo", 6)
        self.assertTrue(one != twin)
        self.assertEqual((len(one), one.log[-1]), (3, ("lie", 3, 1, "echo", 6)))


class Questions(Case):
    def test_numbers(self):
        for call, good in ((sealed_breaks, ASKED), (shows_sealed_breaks, ASKED + [None])):
            self.refuses_each(BadNumber, call, odd_values() + [-1, 0, 1, 13], good, 0)
            self.refuses_each(BadStops, call, odd_values() + [-1, 3, 4], good, 1)
            self.refuses_each(BadCount, call, BAD_COUNTS, good, 2)
            wrong = odd_values() + [0, "One", "on", "run", ("one",), ["one"], b"one", "oneown"]
            self.refuses_each(BadSentence, call, wrong, good, 3)
            self.refuses_in_sequence(call, good, [
                (0, True, BadNumber, True), (1, 3, BadStops, 3), (2, 0, BadCount, 0), (3, None, BadSentence, None),
            ])
            for n in range(2, 13):
                for t in (0, n - 2):
                    for count in (1, 20):
                        call(n, t, count, *good[3:])

    def test_talks(self):
        for call in (sealed_played, sealed_broken):
            good = [4, 3, TALK]
            self.refuses_each(BadNumber, call, odd_values() + [0, 1, 13], good, 0)
            self.refuses_each(BadCount, call, BAD_COUNTS, good, 1)
            self.refuses_in_sequence(call, good, [
                (0, 13, BadNumber, 13), (1, 21, BadCount, 21), (2, TALK[:3], BadTalk, TALK[:3]),
            ])
            deeds = TALK[3]
            wrong = odd_values() + [
                5, list(TALK), TALK + (0,), bent(0, [3]), bent(0, (4,)), bent(0, (0, 1, 2, 3)), bent(1, 4),
                bent(1, True), bent(1, 3), bent(2, None), bent(2, 100), bent(2, True), bent(3, list(deeds)),
                bent(3, None), bent(3, deeds + (None,)), bent(3, deeds + (("deliver", 0),)),
                bent(3, deeds + (("deliver",),)), bent(3, deeds + (["rest"],)), bent(3, deeds + (("rest", 1),)),
                bent(3, deeds + (("lie", 0, 1, "echo", 7),)), bent(3, deeds + (("lie", 3, 1, "promise", 7),)),
                bent(3, deeds + (("lie", 3, 1, "echo", (5, (0, 1, 3))),)), bent(3, deeds[1:]),
                bent(3, deeds + (("lie", 3, 1, "shown", (6, (0, 1, 3))),)), bent(3, (deeds[2], deeds[0])),
                bent(3, deeds + (("lie", 3, 1, ("echo", 7)),)), bent(3, ("rest",)),
            ]
            self.refuses_each(BadTalk, call, wrong, good, 2)
        self.assertEqual(sealed_broken(4, 3, TALK), ())
        self.assertEqual(sealed_played(4, 3, TALK).takings, (5, 5, 5, None))
        self.assertEqual(sealed_played(2, 1, ((), 0, 5, ())).log, ())

    def test_answers(self):
        talk = sealed_breaks(4, 1, 1, "own")
        liars, first, value, deeds = talk
        self.assertIs(shows_sealed_breaks(4, 1, 1, "own", talk), True)
        for wrong in odd_values() + [
            list(talk), talk[:3], talk + (0,), (liars, first, value, ()), (liars, first, value, list(deeds)),
            ((), first, value, deeds), (liars, first, 2, deeds), (liars, first, value, deeds + (None,)),
            ((2, 3), first, value, deeds), (liars, True, value, deeds),
        ]:
            self.assertIs(shows_sealed_breaks(4, 1, 1, "own", wrong), False, wrong)
        for sentence in ("all", "one"):
            self.assertIs(shows_sealed_breaks(4, 1, 3, sentence, None), True)
            self.assertIs(shows_sealed_breaks(4, 1, 3, sentence, talk), False)
        heard = sealed_breaks(4, 1, 4, "heard")
        self.assertIs(shows_sealed_breaks(4, 1, 4, "heard", heard), True)
        self.assertIs(shows_sealed_breaks(4, 1, 4, "heard", (*heard[:3], (("rest",), ("lie", 3, 1, "echo", 5)))), False)
        played = sealed_played(4, 4, heard)
        self.assertIs(shows_sealed_breaks(4, 1, 4, "heard", (*heard[:3], played.log)), False)
        self.assertIs(shows_sealed_breaks(4, 1, 4, "heard", (*heard[:3], played.log + (("rest",),))), True)


if __name__ == "__main__":
    unittest.main()
