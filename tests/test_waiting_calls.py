"""What the functions of waiting.py refuse, and in which sequence (sections 2 and 10)."""

import unittest

from liarslate import waiting
from liarslate.errors import BadHand, BadHouse, BadLetter, BadRound, NotWaiting
from liarslate.nets import Net
from liarslate.texts import Program
from tests.helpers import Case, HALVES, odd_values
from tests.net_helpers import state
from tests.test_nets_calls import BAD_LETTERS, GOOD_LETTERS
from tests.test_texts_calls import BAD_HOUSES

PROGRAM = Program(HALVES)
HOUSE = (4, 1)
NO_HONEST = odd_values() + [3, 4, -1]
NO_HAND = odd_values() + [4, -1]
NO_ROUND = odd_values() + [0, -1, 3, 100]


class Calls(Case):
    def setUp(self):
        self.net = Net(PROGRAM, HOUSE, (0, 4, 8, None), (3,))
        for number in range(8):
            self.net.deliver(number)
        self.net.lie(3, 0, ("echo", (3, 1, 9, 9)))
        self.before = state(self.net)

    def tearDown(self):
        """Nothing here changes a net, whether it raises or not."""
        self.assertEqual(state(self.net), self.before)

    def test_stand(self):
        good = [self.net, 0, 3, 2]
        self.refuses_each(BadHand, waiting.stand, NO_HONEST, good, 1)
        self.refuses_each(BadHand, waiting.stand, NO_HAND, good, 2)
        self.refuses_each(BadRound, waiting.stand, NO_ROUND, good, 3)
        self.refuses_in_sequence(waiting.stand, good, [
            (1, 3, BadHand, 3), (2, True, BadHand, True), (3, 3, BadRound, 3),
        ])
        for hand in (0, 1, 2):
            for other in range(4):
                for at in (1, 2):
                    self.assertIsInstance(waiting.stand(self.net, hand, other, at), tuple)
        rested = self.net.copy()
        rested.rest()
        self.assertEqual(waiting.stand(rested, 0, 1, 1), ("used",))
        self.refuses_each(BadRound, waiting.stand, NO_ROUND, [rested, 0, 1, 1], 3)
        self.refuses_each(BadHand, waiting.stand, NO_HAND, [rested, 0, 1, 1], 2)

    def test_waits_and_chains(self):
        for call, good in ((waiting.waits, []), (waiting.chain, []), (waiting.shows_chain, [()])):
            self.refuses_each(BadHand, call, NO_HONEST, [self.net, 0] + good, 1)
            for hand in (0, 1, 2):
                call(self.net, hand, *good)
        rested = self.net.copy()
        rested.rest()
        for hand in (0, 1, 2):
            self.assertEqual(waiting.waits(rested, hand), ())
            self.refuses(NotWaiting, hand, waiting.chain, rested, hand)
            for value in odd_values() + [((0, 1),)]:
                self.refuses(NotWaiting, hand, waiting.shows_chain, rested, hand, value)
        for hand in NO_HONEST:
            self.refuses(BadHand, hand, waiting.chain, rested, hand)

    def test_no_chains(self):
        """No value of another kind is one."""
        good = waiting.chain(self.net, 0)
        self.assertIs(waiting.shows_chain(self.net, 0, good), True)
        wrong = [value for value in odd_values() if value != ((0, 1),)] + [
            5, list(good), good[0], [good[0]], (list(good[0]),), good + (None,), good + ((),), ((0,),), ((0, 1, 2),),
            ((4, 1),), ((-1, 1),), ((0, 0),), ((0, 3),), ((True, 1),), ((1, True),), ((False, True),), ((None, 1),),
            ((0, None),), (("0", 1),), ((0, "1"),), (((0,), 1),), {0: 1}, ((0, 1, 0, 0),), "01",
        ]
        places = ((0, 0), (0, 3), (4, 1), (True, 1), (0, None), (0, 1, 2), 5, "01", [0, 1])
        wrong += [good + (place,) for place in places]
        for value in wrong:
            self.assertIs(waiting.shows_chain(self.net, 0, value), False, value)

    def test_slips_about(self):
        good = [self.net, 3, 1]
        self.refuses_each(BadHand, waiting.slips_about, NO_HAND, good, 1)
        self.refuses_each(BadRound, waiting.slips_about, NO_ROUND, good, 2)
        self.refuses_each(BadRound, waiting.slips_about, NO_ROUND, [self.net, 0, 1], 2)
        self.refuses_in_sequence(waiting.slips_about, good, [(1, 4, BadHand, 4), (2, 3, BadRound, 3)])
        self.assertEqual(waiting.slips_about(self.net, 3, 1), (0, 0, 0))
        self.assertEqual(waiting.slips_about(self.net, 2, 2), (0, 0, 0))

    def test_all_slips(self):
        self.refuses_each(BadHouse, waiting.all_slips, BAD_HOUSES, [HOUSE, 2], 0)
        self.refuses_each(BadRound, waiting.all_slips, odd_values() + [0, 5, -1, 100], [HOUSE, 2], 1)
        self.refuses_in_sequence(waiting.all_slips, [HOUSE, 4], [(0, (3, 1), BadHouse, (3, 1)), (1, 5, BadRound, 5)])
        self.assertEqual([waiting.all_slips((1, 0), rounds) for rounds in (1, 2, 3, 4)], [0] * 4)
        self.assertEqual(waiting.all_slips((7, 2), 4), 2520)

    def test_first_used(self):
        self.refuses_each(BadLetter, waiting.first_used, BAD_LETTERS, [self.net, (0, 1, 0, 0)], 1)
        for letter in GOOD_LETTERS:
            self.assertEqual(waiting.first_used(self.net, letter), ())

    def test_by_name(self):
        net = self.net
        self.assertEqual(waiting.stand(at=1, other=3, hand=0, net=net), waiting.stand(net, 0, 3, 1))
        self.assertEqual(waiting.waits(hand=0, net=net), waiting.waits(net, 0))
        self.assertEqual(waiting.chain(hand=0, net=net), waiting.chain(net, 0))
        self.assertIs(waiting.shows_chain(value=(), hand=0, net=net), False)
        self.assertEqual((waiting.over(net=net), waiting.to_rest(net=net)), (False, waiting.to_rest(net)))
        self.assertEqual(waiting.slips_about(at=1, hand=0, net=net), waiting.slips_about(net, 0, 1))
        self.assertEqual(waiting.all_slips(rounds=2, house=HOUSE), 216)
        self.assertEqual(waiting.first_used(letter=(0, 1, 0, 0), net=net), ())
        self.assertEqual(waiting.late(net=net), ())

    def test_results_are_tuples(self):
        net = self.net
        rows = [waiting.waits(net, 0), waiting.chain(net, 0), waiting.slips_about(net, 0, 1), waiting.late(net)]
        rows += list(rows[0]) + list(rows[1]) + [row[1] for row in rows[0]]
        rested = net.copy()
        rested.rest()
        rows += [waiting.first_used(rested, rested.used(0)[0]), *waiting.first_used(rested, rested.used(0)[0])]
        for value in rows:
            self.assertIsInstance(value, tuple)


if __name__ == "__main__":
    unittest.main()
