"""What the functions of lies.py refuse, and in which sequence (sections 2 and 14)."""

import unittest

from liarslate.errors import BadCalm, BadHand, BadHouse, BadLetter, BadLiar, BadLot, NoProgram
from liarslate.lies import backed, followed, passing, said_to, takeable, two_faced
from liarslate.nets import Net
from liarslate.texts import Program
from tests.helpers import Case, HALVES, odd_values
from tests.net_helpers import state
from tests.test_nets_calls import BAD_LETTERS
from tests.test_texts_calls import BAD_HOUSES

PROGRAM = Program(HALVES)
LETTER = (3, 1, 9, 9)
CALM = ((0, ((0, 1, 2),)), (4, ()), (8, ()), None)
BAD_LOTS = [value for value in odd_values() if value not in ((), (0,))] + [
    0, [0], (3,), (4,), (-1,), (0, 3), (1, 0), (1, 1), (0, 1, 2, 3), (True,), (False, 1), (0, True), (None,), ("0",),
    ((0,),), {0: 0}, (0, 1, 2, 4),
]


class Nets(Case):
    def setUp(self):
        self.net = Net(PROGRAM, (4, 1), (0, 4, 8, None), (3,))
        self.net.lie(3, 1, ("said", LETTER))
        self.net.deliver(0)
        self.before = state(self.net)

    def tearDown(self):
        """Nothing here changes a net, whether it raises or not."""
        self.assertEqual(state(self.net), self.before)

    def test_liars(self):
        wrong = odd_values() + [0, 1, 2, 4, -1]
        for call, good in (
            (passing, []), (said_to, [(0,), LETTER]), (two_faced, [LETTER, LETTER, (0,)]), (backed, [LETTER]),
        ):
            self.refuses_each(BadLiar, call, wrong, [self.net, 3] + good, 1)
            call(self.net, 3, *good)
        honest = Net(PROGRAM, (4, 1), (0, 4, 8, 9), ())
        for liar in (0, 3, True, None):
            self.refuses(BadLiar, liar, passing, honest, liar)

    def test_letters(self):
        not_the_liars = [(0, 1, 9, 9), (2, 1, 9, 9), (1, 2, 0, ())]
        self.refuses_each(BadLetter, takeable, BAD_LETTERS + not_the_liars, [self.net, LETTER], 1)
        self.refuses_each(BadLetter, said_to, BAD_LETTERS + not_the_liars, [self.net, 3, (0,), LETTER], 3)
        for at in (2, 3):
            good = [self.net, 3, LETTER, LETTER, (0,)]
            self.refuses_each(BadLetter, two_faced, BAD_LETTERS + not_the_liars, good, at)
        self.refuses_each(BadLetter, backed, BAD_LETTERS, [self.net, 3, LETTER], 2)
        for letter in not_the_liars + [LETTER]:
            self.assertEqual(len(backed(self.net, 3, letter)), 6)
        honest = Net(PROGRAM, (4, 1), (0, 4, 8, 9), ())
        self.refuses(BadLetter, LETTER, takeable, honest, LETTER)

    def test_true_is_not_1(self):
        net = Net(PROGRAM, (4, 1), (0, None, 4, 8), (1,))
        letter = (1, 1, 0, 0)
        for call, good in (
            (passing, []), (said_to, [(0,), letter]), (two_faced, [letter, letter, (0,)]), (backed, [letter]),
        ):
            self.refuses(BadLiar, True, call, net, True, *good)
        self.refuses(BadLetter, (True, 1, 0, 0), takeable, net, (True, 1, 0, 0))

    def test_another_liars_letter(self):
        net = Net(PROGRAM, (7, 2), (1, 2, 3, 4, 5, None, None), (5, 6))
        letter = (5, 1, 0, 0)
        self.assertIs(takeable(net, letter), True)
        self.refuses(BadLetter, letter, said_to, net, 6, (0,), letter)
        self.refuses(BadLetter, letter, two_faced, net, 6, letter, (6, 1, 0, 0), (0,))
        self.refuses(BadLetter, letter, two_faced, net, 6, (6, 1, 0, 0), letter, (0,))
        self.assertEqual(len(backed(net, 6, letter)), 10)

    def test_lots(self):
        self.refuses_each(BadLot, said_to, BAD_LOTS, [self.net, 3, (0,), LETTER], 2)
        self.refuses_each(BadLot, two_faced, BAD_LOTS, [self.net, 3, LETTER, LETTER, (0,)], 4)
        for hands in ((), (0,), (2,), (0, 2), (0, 1, 2)):
            self.assertEqual(len(said_to(self.net, 3, hands, LETTER)), len(hands))
            self.assertEqual(len(two_faced(self.net, 3, LETTER, LETTER, hands)), 3)

    def test_sequence(self):
        bad = (0, 1, 9, 9)
        self.refuses_in_sequence(said_to, [self.net, 3, (0,), LETTER], [
            (1, True, BadLiar, True), (2, (3,), BadLot, (3,)), (3, bad, BadLetter, bad),
        ])
        self.refuses_in_sequence(two_faced, [self.net, 3, LETTER, LETTER, (0,)], [
            (1, 2, BadLiar, 2), (2, bad, BadLetter, bad), (3, None, BadLetter, None), (4, [0], BadLot, [0]),
        ])
        self.refuses_in_sequence(backed, [self.net, 3, LETTER], [
            (1, 4, BadLiar, 4), (2, LETTER[:3], BadLetter, LETTER[:3]),
        ])

    def test_by_name(self):
        self.assertIs(takeable(letter=LETTER, net=self.net), True)
        self.assertEqual(len(passing(liar=3, net=self.net)), 10)
        self.assertEqual(len(said_to(letter=LETTER, hands=(1,), liar=3, net=self.net)), 1)
        self.assertEqual(len(two_faced(side=(1,), other=LETTER, one=(3, 1, 8, 8), liar=3, net=self.net)), 3)
        self.assertEqual(len(backed(letter=LETTER, liar=3, net=self.net)), 6)
        self.assertEqual(followed(hand=1, calm=CALM, house=(4, 1), program=PROGRAM), ((1, 1, 4, 4),))

    def test_kinds_of_results(self):
        for told in (passing(self.net, 3), said_to(self.net, 3, (0,), LETTER), backed(self.net, 3, LETTER)):
            self.assertIsInstance(told, tuple)
            for row in told:
                self.assertIsInstance(row, tuple)
        self.assertIsInstance(followed(PROGRAM, (4, 1), CALM, 0), tuple)


class Followed(Case):
    def test_each(self):
        good = [PROGRAM, (4, 1), CALM, 0]
        wrong = [value for value in odd_values() if not isinstance(value, Program)] + [0, HALVES]
        self.refuses_each(NoProgram, followed, wrong, good, 0)
        self.refuses_each(BadHouse, followed, BAD_HOUSES, good, 1)
        calms = odd_values() + [
            5, list(CALM), CALM[:3], CALM + (None,), (None,) + CALM[1:3] + ((0, ((0, 1, 2),)),),
            ((True, ()),) + CALM[1:], ((0, ((0, 1, 3),)),) + CALM[1:], ((10, ()),) + CALM[1:],
        ]
        self.refuses_each(BadCalm, followed, calms, good, 2)
        self.refuses_each(BadHand, followed, odd_values() + [-1, 4], good, 3)
        self.refuses_in_sequence(followed, good, [
            (0, None, NoProgram, None), (1, (3, 1), BadHouse, (3, 1)), (2, (), BadCalm, ()), (3, True, BadHand, True),
        ])


if __name__ == "__main__":
    unittest.main()
