"""What the functions of told.py refuse, and in which sequence (sections 2 and 9)."""

import unittest

from liarslate import told as telling
from liarslate.errors import BadHand, BadHouse, BadMany, BadStory, NoProgram, NotUsed
from liarslate.nets import Net
from liarslate.texts import Program
from tests.helpers import Case, HALVES, odd_values
from tests.net_helpers import state
from tests.test_nets_calls import BAD_LETTERS
from tests.test_texts_calls import BAD_HOUSES

PROGRAM = Program(HALVES)
HOUSE = (4, 1)
BAD_HANDS = odd_values() + [3, 4, -1]
USED = (1, 1, 4, 4)


def rested():
    net = Net(PROGRAM, HOUSE, (0, 4, 8, None), (3,))
    net.rest()
    return net


class Nets(Case):
    def setUp(self):
        self.net = rested()
        self.before = state(self.net)

    def tearDown(self):
        """Nothing here changes a net, whether it raises or not."""
        self.assertEqual(state(self.net), self.before)

    def test_hands(self):
        for name, good in (
            ("told", []), ("told_at", [0]), ("least_told", [USED]), ("paper", [USED]), ("story", []), ("differs", [1]),
        ):
            call = getattr(telling, name)
            self.refuses_each(BadHand, call, BAD_HANDS, [self.net, 0] + good, 1)
            for hand in (0, 1, 2):
                call(self.net, hand, *good)
        self.refuses_each(BadHand, telling.differs, BAD_HANDS, [self.net, 0, 1], 2)
        self.refuses_in_sequence(telling.differs, [self.net, 0, 1], [(1, 3, BadHand, 3), (2, True, BadHand, True)])

    def test_moments(self):
        many = len(self.net)
        self.refuses_each(BadMany, telling.told_at, odd_values() + [-1, many + 1, 10000], [self.net, 0, 0], 2)
        self.assertEqual(telling.told_at(self.net, 0, 0), ((0, ()), None, None, None))
        self.assertEqual(telling.told_at(self.net, 0, many), telling.told(self.net, 0))
        self.refuses_in_sequence(telling.told_at, [self.net, 0, many], [
            (1, 3, BadHand, 3), (2, many + 1, BadMany, many + 1),
        ])

    def test_letters(self):
        wrong = BAD_LETTERS + [
            (1, 1, 5, 4), (1, 1, 4, 5), (3, 1, 9, 9), (1, True, 4, 4), (True, 1, 4, 4), (1, 2, 4, (0, 1, 3)),
            (1, 1, 4, (4,)), [1, 1, 4, 4], (1, 3, 4, (0, 1, 2)),
        ]
        for call in (telling.least_told, telling.paper):
            self.refuses_each(NotUsed, call, wrong, [self.net, 0, USED], 2)
            self.refuses_in_sequence(call, [self.net, 0, USED], [(1, 3, BadHand, 3), (2, None, NotUsed, None)])
            for letter in self.net.used(0):
                call(self.net, 0, letter)

    def test_letters_that_are_not_used_yet(self):
        """Taken is not used, and what one used another one may not have used yet."""
        net = Net(PROGRAM, HOUSE, (0, 4, 8, None), (3,))
        for call in (telling.least_told, telling.paper):
            self.refuses(NotUsed, (0, 1, 0, 0), call, net, 0, (0, 1, 0, 0))
        for hand in (0, 1, 2):
            net.lie(3, hand, ("said", (3, 1, 9, 8)))
        net.rest()
        self.assertIn((3, 1, 9, 8), net.taken(0))
        for call in (telling.least_told, telling.paper):
            self.refuses(NotUsed, (3, 1, 9, 8), call, net, 0, (3, 1, 9, 8))

    def test_by_name(self):
        net = self.net
        self.assertEqual(telling.told(hand=1, net=net), telling.told(net, 1))
        self.assertEqual(telling.told_at(many=5, hand=1, net=net), telling.told_at(net, 1, 5))
        self.assertEqual(telling.told_all(net=net), telling.told_all(net))
        self.assertEqual(telling.shared(net=net), telling.shared(net))
        self.assertEqual(telling.slowness(net=net), telling.slowness(net))
        self.assertEqual(telling.story(hand=1, net=net), telling.story(net, 1))
        self.assertEqual(telling.differs(other=2, one=1, net=net), (0, 0, 0, 0))
        for call in (telling.least_told, telling.paper):
            self.assertEqual(call(letter=USED, hand=1, net=net), call(net, 1, USED))
        rows = telling.story(net, 1)
        self.assertIs(telling.is_story(value=rows, house=HOUSE, program=PROGRAM), True)
        self.assertEqual(telling.calm_of(story=rows, house=HOUSE, program=PROGRAM)[0], (0, ((0, 1, 2),)))

    def test_results_are_tuples(self):
        net = self.net
        calms = [telling.told(net, 0), telling.told_all(net), telling.told_at(net, 0, 9), telling.shared(net)]
        calms += [telling.least_told(net, 0, USED), telling.calm_of(PROGRAM, HOUSE, telling.story(net, 0))]
        for calm in calms:
            self.assertIsInstance(calm, tuple)
            for entry in calm:
                self.assertTrue(entry is None or isinstance(entry, tuple) and isinstance(entry[1], tuple))
        rows = [telling.story(net, 0), telling.differs(net, 0, 1), telling.slowness(net), telling.paper(net, 0, USED)]
        for value in rows + list(rows[0]) + list(rows[2]) + list(rows[3]):
            self.assertIsInstance(value, tuple)


class Judging(Case):
    def test_worlds(self):
        rows = telling.story(rested(), 0)
        wrong = [value for value in odd_values() if not isinstance(value, Program)] + [0, HALVES, (PROGRAM,)]
        for call in (telling.is_story, telling.calm_of):
            self.refuses_each(NoProgram, call, wrong, [PROGRAM, HOUSE, rows], 0)
            self.refuses_each(BadHouse, call, BAD_HOUSES, [PROGRAM, HOUSE, rows], 1)
        wrongs = [(0, None, NoProgram, None), (1, [4, 1], BadHouse, [4, 1])]
        self.refuses_in_sequence(telling.is_story, [PROGRAM, HOUSE, None], wrongs)
        self.refuses_in_sequence(telling.calm_of, [PROGRAM, HOUSE, rows], wrongs + [(2, rows[1:], BadStory, rows[1:])])

    def test_any_value(self):
        """No value of another kind is a STORY, and each is the error's value."""
        rows = telling.story(rested(), 0)
        wrong = [value for value in odd_values() if value != ()] + [
            5, "story", list(rows), {0: rows}, (rows,), rows[0], rows[0][0], (rows[0][0],), rows + (None,),
            rows + ((),), rows + (rows[0],), rows[1:], (rows[0], list(rows[1])), rows + ((rows[0][0], rows[0][1], 1),),
        ]
        wrong += [((letter, (0, 1, 2)),) for letter in BAD_LETTERS]
        wrong += [((rows[0][0], value),) for value in odd_values() + [3, "012", [0, 1, 2], (0, 1, True), {0: 1}]]
        for value in wrong:
            self.assertIs(telling.is_story(PROGRAM, HOUSE, value), False)
            self.refuses(BadStory, value, telling.calm_of, PROGRAM, HOUSE, value)
        for value in ((), rows, rows[:1], rows[:2]):
            self.assertIs(telling.is_story(PROGRAM, HOUSE, value), True)
            telling.calm_of(PROGRAM, HOUSE, value)


if __name__ == "__main__":
    unittest.main()
