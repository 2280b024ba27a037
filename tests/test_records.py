"""Records, against machines of the tests' own (section 15; guarantee g)."""

import unittest
from itertools import combinations

from liarslate.errors import Kept
from liarslate.nets import Net
from liarslate.records import explains, first_lie, inputs_of, is_record, kept, liars_in, record
from liarslate.spreading import usual
from liarslate.texts import begun, input_values, Program
from tests.helpers import alike, Case, chances
from tests.net_helpers import Hand, honest_of, lead, led_net, Model, random_letter, state

HIGH = Program("inputs 0 9\ncells x\nround x\nput x greatest\nsay x")
TWICE = Program("inputs 0 3\ncells x\nround x\nput x greatest\nround plus x x\nput x sum\nsay x")
KINDS = ("said", "echo", "promise")


class Lone(Model):
    """A hand's machine, made anew: it sends to all others, whoever they are."""

    def __init__(self, program, house, hand, value):
        self.program, self.house, self.liars = program, house, ()
        self.counts = (1, 1, 1) if house[0] == 1 else usual(*house)
        self.hands = {hand: Hand(begun(program, value))}
        self.sends = []
        self.send_letter(hand, 1, value)
        self.use(hand)

    def to_all(self, hand, kind, letter):
        self.sends.append((kind, letter))
        self.spread(hand, hand, kind, letter)

    def go_on(self, hand):
        """Liars may have told a letter of the hand itself: so it may go on more than once."""
        lots = -1
        while len(self.hands[hand].lots) > lots:
            lots = len(self.hands[hand].lots)
            super().go_on(hand)

    def hear(self, hand, sender, slip):
        self.spread(hand, sender, *slip)
        self.use(hand)


def wrong_row(program, house, rows, hand, value):
    """The number of the first row that this hand's machine does not do, None without."""
    machine, told = Lone(program, house, hand, value), []
    for number, (sender, to, slip) in enumerate(rows):
        if sender == hand:
            if slip not in machine.sends or (to, slip) in told:
                return number
            told.append((to, slip))
        if to == hand:
            machine.hear(hand, sender, slip)
    return None


def told_inputs(program, house, rows, hand):
    return tuple(value for value in input_values(program)
                 if wrong_row(program, house, rows, hand, value) is None)


def recorded(chance, **start):
    """A net that was led by chance, with inputs of few values."""
    net = led_net(chance, 0, **start)
    for _ in lead(chance, net, chance.randint(0, 120), lies=0.15):
        pass
    return net


def bent_rows(chance, net, rows):
    """The rows with one of them planted, told twice, told too early, by another hand, or bent."""
    n = net.house[0]
    rows = list(rows)
    at = chance.randrange(len(rows) + 1)
    style = chance.choice(("plant", "twice", "early", "other", "bend", "drop"))
    if not rows or style == "plant":
        sender, to = chance.sample(range(n), 2)
        rows.insert(at, (sender, to, (chance.choice(KINDS), random_letter(chance, net))))
        return tuple(rows)
    at = min(at, len(rows) - 1)
    sender, to, slip = rows[at]
    if style == "twice":
        rows.insert(chance.randint(at + 1, len(rows)), rows[at])
    elif style == "early":
        rows.insert(chance.randint(0, at), rows.pop(at))
    elif style == "other":
        rows[at] = (chance.choice([hand for hand in range(n) if hand != to]), to, slip)
    elif style == "bend":
        rows[at] = (sender, to, (chance.choice(KINDS), random_letter(chance, net)))
    else:
        rows.pop(at)
    return tuple(rows)


class Recorded(Case):
    def test_what_was_delivered(self):
        for chance in chances(170, 30):
            net = led_net(chance, 0)
            rows, before = [], net.under_way
            self.assertEqual(record(net), ())
            for _ in lead(chance, net, 80, lies=0.15):
                deed = net.log[-1]
                if deed[0] == "deliver":
                    rows += [slip[1:] for slip in before if slip[0] == deed[1]]
                before = net.under_way
                self.assertEqual(record(net), tuple(rows))
            self.assertTrue(is_record(net.program, net.house, record(net)))
            self.assertEqual(record(net.copy()), tuple(rows))
            net.rest()
            self.assertEqual(len(record(net)), len([deed for deed in net.log if deed[0] == "deliver"]))

    def test_honest_hands_keep_to_their_machines(self):
        for chance in chances(171, 30):
            net = recorded(chance, rounds=chance.randint(1, 2))
            if chance.random() < 0.3:
                net.rest()
            rows = record(net)
            before = state(net, False)
            for hand in honest_of(net):
                self.assertIn(net.inputs[hand], inputs_of(net.program, net.house, rows, hand))
                self.refuses(Kept, hand, first_lie, net.program, net.house, rows, hand)
            self.assertLessEqual(set(honest_of(net)), set(kept(net.program, net.house, rows)))
            self.assertLessEqual(set(liars_in(net.program, net.house, rows)), set(net.liars))
            self.assertTrue(explains(net.program, net.house, rows, net.liars))
            self.assertEqual(state(net, False), before)

    def test_who_lied_is_found(self):
        found = 0
        for chance in chances(172, 20):
            net = recorded(chance, house=(4, 1), rounds=1, many=1)
            rows = record(net)
            self.agrees(net.program, net.house, rows)
            found += len(liars_in(net.program, net.house, rows))
        self.assertGreater(found, 5)

    def agrees(self, program, house, rows):
        """All functions, against machines made anew."""
        told = [told_inputs(program, house, rows, hand) for hand in range(house[0])]
        good = tuple(hand for hand in range(house[0]) if told[hand])
        self.assertEqual([inputs_of(program, house, rows, hand) for hand in range(house[0])], told)
        self.assertEqual(kept(program, house, rows), good)
        self.assertEqual(liars_in(program, house, rows), tuple(hand for hand in range(house[0]) if not told[hand]))
        for many in range(house[1] + 1):
            for lot in combinations(range(house[0]), many):
                wanted = all(hand in lot or told[hand] for hand in range(house[0]))
                self.assertIs(explains(program, house, rows, lot), wanted)
        for hand in range(house[0]):
            if told[hand]:
                self.refuses(Kept, hand, first_lie, program, house, rows, hand)
                continue
            number = first_lie(program, house, rows, hand)
            self.assertTrue(told_inputs(program, house, rows[:number], hand))
            self.assertFalse(told_inputs(program, house, rows[:number + 1], hand))

    def test_bent_records(self):
        bad = 0
        for chance in chances(173, 60):
            net = recorded(chance, house=chance.choice(((2, 0), (3, 0), (4, 1), (4, 1))), rounds=chance.randint(1, 2))
            rows = record(net)
            for _ in range(chance.randint(1, 3)):
                rows = bent_rows(chance, net, rows)
            self.assertTrue(is_record(net.program, net.house, rows))
            self.agrees(net.program, net.house, rows)
            bad += len(liars_in(net.program, net.house, rows))
        self.assertGreater(bad, 40)

    def test_greater_houses(self):
        for chance in chances(174, 6):
            net = recorded(chance, house=(7, 2), rounds=1, many=2)
            self.agrees(net.program, net.house, bent_rows(chance, net, record(net)))


class Keeping(Case):
    def test_nothing_written_down(self):
        for house in ((1, 0), (4, 1)):
            self.assertEqual(kept(HIGH, house, ()), tuple(range(house[0])))
            self.assertEqual(inputs_of(HIGH, house, (), 0), tuple(range(10)))
            self.assertIs(explains(HIGH, house, (), ()), True)

    def test_told_twice(self):
        row = (0, 1, ("said", (0, 1, 4, 4)))
        self.assertEqual(inputs_of(HIGH, (4, 1), (row,), 0), (4,))
        self.assertEqual(inputs_of(HIGH, (4, 1), (row, (0, 2) + row[2:]), 0), (4,))
        self.assertEqual(inputs_of(HIGH, (4, 1), (row, row), 0), ())
        self.assertEqual(first_lie(HIGH, (4, 1), (row, row), 0), 1)

    def test_to_itself_nothing_is_written_down(self):
        self.assertIs(is_record(HIGH, (4, 1), ((0, 0, ("said", (0, 1, 4, 4))),)), False)
        self.assertIs(is_record(HIGH, (4, 1), ((0, 3, ("said", (0, 1, 4, 4))),)), True)

    def test_too_early(self):
        letter = (0, 1, 4, 4)
        heard, told = (0, 1, ("said", letter)), (1, 2, ("echo", letter))
        self.assertEqual(len(inputs_of(HIGH, (4, 1), (heard, told), 1)), 10)
        self.assertEqual(inputs_of(HIGH, (4, 1), (told, heard), 1), ())
        self.assertEqual(first_lie(HIGH, (4, 1), (told, heard), 1), 0)
        self.assertEqual(liars_in(HIGH, (4, 1), (told, heard)), (1,))

    def test_another_hands_letter(self):
        """A said slip counts only if it comes from the letter's own hand; others' words are theirs alone."""
        letter = (0, 1, 4, 4)
        handed_on, told = (2, 1, ("said", letter)), (1, 3, ("echo", letter))
        self.assertEqual(inputs_of(HIGH, (4, 1), (handed_on, told), 1), ())
        self.assertEqual(inputs_of(HIGH, (4, 1), (handed_on,), 2), ())
        self.assertEqual(len(inputs_of(HIGH, (4, 1), (handed_on,), 1)), 10)

    def test_an_input_that_is_told_late(self):
        rows = ((0, 1, ("said", (0, 1, 4, 4))), (0, 2, ("said", (0, 1, 5, 5))), (0, 3, ("echo", (0, 1, 4, 4))))
        self.assertEqual([inputs_of(HIGH, (4, 1), rows[:many], 0) for many in (1, 2)], [(4,), ()])
        self.assertEqual(first_lie(HIGH, (4, 1), rows, 0), 1)
        self.assertEqual(first_lie(HIGH, (4, 1), rows[1:], 0), 1)

    def test_the_last_input_to_fail_tells_the_row(self):
        """Of two inputs that send like values one fails later."""
        low = Program("inputs 0 3\ncells x\nround half x\nput x greatest\nsay x")
        rows = ((0, 1, ("said", (0, 1, 1, 3))), (0, 2, ("said", (0, 1, 1, 2))))
        self.assertEqual(inputs_of(low, (4, 1), rows[:1], 0), (3,))
        self.assertEqual(first_lie(low, (4, 1), rows, 0), 1)

    def test_whose_own_letter_is_forged(self):
        """Where more than t others lie they can bring a machine to go on by a letter of its own that it never sent."""
        forged = (0, 1, 9, 9)
        rows = [(hand, 0, ("promise", forged)) for hand in (1, 2)]
        for other in (1, 2):
            rows += [(hand, 0, ("promise", (other, 1, 5, 5))) for hand in (1, 2, 3)]
        rows = tuple(rows + [(3, 0, ("promise", forged))])
        sends = Lone(TWICE, (4, 1), 0, 1)
        for sender, _, slip in rows:
            sends.hear(0, sender, slip)
        # 5 is no input here, so the others' letters can't be used, and the machine stays where it is.
        self.assertNotIn((0, 2), [letter[:2] for kind, letter in sends.sends])
        usable = tuple((sender, to, (kind, (letter[0], 1, 3, 3))) for sender, to, (kind, letter) in rows)
        said = (0, 1, ("said", (0, 2, 6, (0, 1, 2))))
        self.assertEqual(inputs_of(TWICE, (4, 1), usable + (said,), 0), told_inputs(TWICE, (4, 1), usable + (said,), 0))
        self.assertEqual(inputs_of(TWICE, (4, 1), usable + (said,), 0), (0, 1, 2, 3))

    def test_a_machine_goes_on_twice_at_once(self):
        """Its own letters of both rounds are used ahead of the others': then it hears both rounds behind one slip."""
        def told(letter):
            return [(hand, 0, ("promise", letter)) for hand in (1, 2, 3)]
        own, later = (0, 1, 3, 3), (0, 2, 6, (0, 1, 2))
        others = [(hand, 1, 3, 3) for hand in (1, 2)]
        second = [(hand, 2, 6, (0, 1, 2)) for hand in (1, 2)]
        rows = told(own) + told(others[0]) + told(later) + told(second[0]) + told(second[1]) + told(others[1])
        for rows_told in (rows, rows[::-1], rows[3:] + rows[:3], told(later) + rows[:6] + rows[9:]):
            for many in range(len(rows_told) + 1):
                told_rows = tuple(rows_told[:many])
                machine = Lone(TWICE, (4, 1), 0, 2)
                for sender, _, slip in told_rows:
                    machine.hear(0, sender, slip)
                for slip in (("said", (0, 2, 6, (0, 1, 2))), ("echo", (0, 2, 6, (0, 1, 2)))):
                    wanted = 2 in told_inputs(TWICE, (4, 1), told_rows + ((0, 3, slip),), 0)
                    got = 2 in inputs_of(TWICE, (4, 1), told_rows + ((0, 3, slip),), 0)
                    self.assertEqual(got, wanted)
                    self.assertEqual(got, slip in machine.sends)


class Shapes(Case):
    GOOD = ((0, 1, ("said", (3, 1, 5, 5))), (2, 3, ("promise", (0, 2, -7, (0, 1, 2)))))

    def bends(self, value, path=()):
        """The value with one part of it, at any depth, bent to another kind or just beyond a bound."""
        yield from ((path, one) for one in (None, True, "0", [value], (value,), 10000, -10000, {}))
        if isinstance(value, tuple):
            yield from ((path, one) for one in (list(value), value + (0,), value[:-1], value[::-1]))
            for at, part in enumerate(value):
                for _, bent in self.bends(part):
                    yield path, value[:at] + (bent,) + value[at + 1:]

    def is_right(self, rows):
        """Whether these rows are a RECORD, told anew."""
        def is_int(value, low, high):
            return type(value) is int and low <= value <= high

        def is_claim(value):
            if type(value) is tuple:
                return all(is_int(one, 0, 3) for one in value) and list(value) == sorted(set(value))
            return is_int(value, -9999, 9999)

        def is_row(row):
            if type(row) is not tuple or len(row) != 3 or not (is_int(row[0], 0, 3) and is_int(row[1], 0, 3)):
                return False
            slip = row[2]
            if row[0] == row[1] or type(slip) is not tuple or len(slip) != 2 or type(slip[0]) is not str:
                return False
            letter = slip[1]
            if slip[0] not in KINDS or type(letter) is not tuple or len(letter) != 4:
                return False
            shape = is_int(letter[0], 0, 3) and is_int(letter[1], 1, 2) and is_int(letter[2], -9999, 9999)
            return shape and is_claim(letter[3])
        return type(rows) is tuple and all(is_row(row) for row in rows)

    def test_bent_at_any_depth(self):
        told = [bent for _, bent in self.bends(self.GOOD)]
        self.assertGreater(len(told), 200)
        for rows in told:
            self.assertIs(is_record(TWICE, (4, 1), rows), self.is_right(rows), rows)

    def test_good_ones(self):
        for rows in ((), self.GOOD, self.GOOD * 2):
            self.assertIs(is_record(TWICE, (4, 1), rows), True)
        self.assertIs(is_record(HIGH, (4, 1), self.GOOD), False)
        self.assertIs(is_record(HIGH, (4, 1), self.GOOD[:1]), True)
        self.assertIs(is_record(TWICE, (3, 0), self.GOOD[:1]), False)
        self.assertTrue(alike(record(Net(HIGH, (4, 1), (1, 2, 3, None), (3,))), ()))


if __name__ == "__main__":
    unittest.main()
