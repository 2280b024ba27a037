"""What the functions of counts.py refuse, in which sequence, and which talks are none (sections 2 and 7)."""

import unittest

from liarslate.counts import bears, breaks, broken, fewest, fine_counts, played, shows_breaks, why
from liarslate.errors import BadCounts, BadNumber, BadSentence, BadStops, BadTalk
from liarslate.spreading import Spread
from tests.helpers import Case, odd_values

COUNTS = (3, 2, 3)
TALK = ((3,), 0, 5, (("deliver", 0), ("lie", 3, 1, "echo", 7), ("deliver", 4), ("rest",)))
ASKED = [4, 1, COUNTS, "own"]
CALLS = (
    (breaks, ASKED), (shows_breaks, ASKED + [None]), (why, ASKED[:3]), (fine_counts, ASKED[:2]),
)
LED = ((played, [4, COUNTS, TALK]), (broken, [4, COUNTS, TALK]), (bears, [4, COUNTS]))
BAD_COUNTS = odd_values() + [
    3, (3, 2), (3, 2, 3, 1), [3, 2, 3], (0, 1, 1), (1, 0, 1), (1, 1, 0), (21, 1, 1), (1, 21, 1), (1, 1, 21),
    (True, 1, 1), (1, True, 1), (1, 1, True), (1, None, 1), ("1", 1, 1), ((1, 1, 1),), (1, 1, (1,)),
]


def bent(at, value):
    """The talk with another part."""
    return TALK[:at] + (value,) + TALK[at + 1:]


class Refusals(Case):
    def test_numbers(self):
        for n in range(2, 13):
            why(n, n - 2, COUNTS)
            bears(n, COUNTS)
            played(n, COUNTS, ((), 0, 5, ()))
        for call, good in CALLS + LED:
            self.refuses_each(BadNumber, call, odd_values() + [-1, 0, 1, 13, 100], good, 0)

    def test_stops(self):
        for n in range(2, 13):
            for t in range(n - 1):
                why(n, t, COUNTS)
            for t in (-1, n - 1, n, 100, True, None):
                self.refuses(BadStops, t, why, n, t, COUNTS)
        for call, good in CALLS:
            self.refuses_each(BadStops, call, odd_values() + [-1, 3, 4, 9], good, 1)
        self.refuses_each(BadStops, fewest, odd_values() + [-1, 4, 9], [0], 0)

    def test_counts(self):
        for counts in ((1, 1, 1), (20, 20, 20), (1, 20, 7)):
            why(4, 1, counts)
            bears(4, counts)
            played(4, counts, ((), 0, 5, ()))
        for call, good in CALLS[:3]:
            self.refuses_each(BadCounts, call, BAD_COUNTS, good, 2)
        for call, good in LED:
            self.refuses_each(BadCounts, call, BAD_COUNTS, good, 1)

    def test_sentences(self):
        wrong = odd_values() + [0, "One", "one ", "on", "run", ("one",), ["one"], "oneown", b"one"]
        for call, good in CALLS[:2]:
            for sentence in ("all", "heard", "one", "own"):
                call(*good[:3], sentence, *good[4:])
            self.refuses_each(BadSentence, call, wrong, good, 3)

    def test_sequence(self):
        wrongs = [
            (0, 13, BadNumber, 13), (1, 3, BadStops, 3), (2, [3, 2, 3], BadCounts, [3, 2, 3]),
            (3, None, BadSentence, None),
        ]
        for call, good in CALLS:
            self.refuses_in_sequence(call, good, wrongs[:len(good)])
        wrongs = [(0, True, BadNumber, True), (1, (3, 2), BadCounts, (3, 2)), (2, [], BadTalk, [])]
        for call, good in LED:
            self.refuses_in_sequence(call, good, wrongs[:len(good)])

    def test_by_name(self):
        self.assertEqual(breaks(sentence="own", counts=COUNTS, t=1, n=4), None)
        self.assertIs(shows_breaks(value=None, sentence="own", counts=COUNTS, t=1, n=4), True)
        self.assertEqual(why(counts=COUNTS, t=1, n=4), ())
        self.assertEqual(fine_counts(t=1, n=4), (COUNTS,))
        self.assertEqual(bears(counts=COUNTS, n=4), 1)
        self.assertEqual(fewest(t=1), 4)
        self.assertEqual(broken(talk=TALK, counts=COUNTS, n=4), ())
        self.assertEqual(len(played(talk=TALK, counts=COUNTS, n=4)), 16)


class Talks(Case):
    def refused(self, talk, counts=COUNTS, n=4):
        """No TALK: the whole of it is the value."""
        for call in (played, broken):
            self.refuses(BadTalk, talk, call, n, counts, talk)
        for sentence in ("all", "heard", "one", "own"):
            wanted = talk is None and breaks(n, 1, counts, sentence) is None
            self.assertIs(shows_breaks(n, 1, counts, sentence, talk), wanted)

    def test_played(self):
        spread = played(4, COUNTS, TALK)
        self.assertIsInstance(spread, Spread)
        told = Spread(4, COUNTS, (3,), 0, 5)
        told.deliver(0)
        told.lie(3, 1, "echo", 7)
        told.deliver(4)
        told.rest()
        self.assertTrue(spread == told)
        self.assertEqual(spread.log[:3], TALK[3][:3])
        self.assertTrue(played(4, COUNTS, TALK) == spread)
        self.assertEqual(played(4, COUNTS, ((3,), 3, None, ())).log, ())
        self.assertEqual(played(4, COUNTS, ((), 0, 5, (("rest",), ("rest",)))).under_way, ())
        # One liar less than all hands is no matter here.
        self.assertEqual(played(4, COUNTS, ((0, 1, 3), 2, 99, ())).first, 2)

    def test_no_talks(self):
        for talk in odd_values() + [5, TALK[:3], TALK + ((),), list(TALK), (TALK,), TALK[3], {0: TALK}]:
            self.refused(talk)

    def test_bent_beginnings(self):
        wrong = [value for value in odd_values() if value != ()]
        # Of (0,) the first one is a liar, of whom 5 is no value.
        for liars in wrong + [(0,), (4,), (2, 1), (3, 3), (True,), 3, (0, 1, 2, 3)]:
            self.refused(bent(0, liars))
        for first in odd_values() + [4, -1]:
            self.refused(bent(1, first))
        self.refused(bent(1, 3))
        for value in odd_values() + [-1, 100]:
            self.refused(bent(2, value))
        self.refused(((3,), 3, 5, ()))

    def test_bent_deeds(self):
        self.refused(bent(3, list(TALK[3])))
        for deeds in [value for value in odd_values() if value != ()] + [5, "rest", ("rest",)]:
            self.refused(bent(3, deeds))
        for deed in odd_values() + [
            5, ["rest"], ("Rest",), ("rest", 0), ("rest", ()), (), ("deliver",), ("deliver", 1, 2), ["deliver", 1],
            ("deliver", -1), ("deliver", 99), ("deliver", True), ("deliver", False), ("deliver", None),
            ("deliver", "1"), ("deliver", (1,)), ("deliver", [1]), ("take", 1), (1, "deliver"), ("lie",),
            ("lie", 3, 1, "echo"), ("lie", 3, 1, "echo", 7, 0), ["lie", 3, 1, "echo", 7], ("lie", 0, 1, "echo", 7),
            ("lie", 3, 3, "echo", 7), ("lie", 3, 4, "echo", 7), ("lie", 3, 1, "shown", 7), ("lie", 3, 1, "echo", 100),
            ("lie", 3, 1, "echo", -1), ("lie", 3, 1, "echo", True), ("lie", 3, True, "echo", 7),
            ("lie", True, 1, "echo", 7), ("lie", 3, 1, ["echo"], 7), ("lie", 3, 1, "echo", None), (["lie"], 3, 1, 2, 3),
            ({}, 1), (None, 1), (True, 1), (("deliver",), 1),
        ]:
            self.refused(bent(3, (deed,)))
            self.refused(bent(3, (("deliver", 0), deed)))
            self.refused(bent(3, (deed,) + TALK[3]))

    def test_deeds_stand_where_they_can_be_done(self):
        lie, slip = ("lie", 3, 1, "echo", 7), ("deliver", 4)
        played(4, COUNTS, bent(3, (lie, slip)))
        self.refused(bent(3, (slip, lie)))
        self.refused(bent(3, (lie, slip, slip)))
        self.refused(bent(3, (("rest",), ("deliver", 0))))
        self.refused(bent(3, (("deliver", 0), ("deliver", 0))))
        # Behind the first said two echoes are put, so the lie has number 6.
        played(4, COUNTS, bent(3, (("deliver", 0), lie, ("deliver", 6))))
        self.refused(bent(3, (lie, ("deliver", 0), ("deliver", 7))))

    def test_any_value_shows(self):
        for value in odd_values():
            told = shows_breaks(4, 1, COUNTS, "one", value)
            self.assertIs(told, value is None)
            self.assertIs(shows_breaks(3, 1, (2, 2, 2), "one", value), False)
        talk = breaks(3, 1, (2, 2, 2), "one")
        for wrong in (list(talk), talk[:3], talk + (1,), talk[:3] + (list(talk[3]),), talk[:3] + (talk[3][:-1],)):
            self.assertIs(shows_breaks(3, 1, (2, 2, 2), "one", wrong), False)

    def test_results_are_tuples(self):
        talk = breaks(3, 1, (2, 2, 2), "all")
        for value in (talk, talk[0], talk[3], why(3, 1, COUNTS), fine_counts(4, 0), broken(4, COUNTS, TALK)):
            self.assertIsInstance(value, tuple)
        for deed in talk[3] + fine_counts(4, 0):
            self.assertIsInstance(deed, tuple)


if __name__ == "__main__":
    unittest.main()
