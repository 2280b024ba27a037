"""What liars can still bring about, against deeds of the tests' own (section 14)."""

import unittest

from liarslate.calm import letters, options
from liarslate.lies import backed, followed, passing, said_to, takeable, two_faced
from liarslate.nets import Net
from liarslate.texts import begun, input_values, later, Program, sent
from liarslate.told import told_all
from tests.helpers import Case, chances, HALVES, random_lot
from tests.net_helpers import honest_of, lead, led_net, random_letter, state

GREATEST = Program("inputs 0 9\ncells x\nround x\nput x greatest\nround x\nput x least\nsay x")
WITH_LIARS = (((4, 1), 1), ((5, 1), 1), ((6, 1), 1), ((7, 2), 2), ((7, 2), 1), ((7, 1), 1))


def do_all(net, deeds):
    for deed in deeds:
        net.lie(*deed[1:])


def press(net, letter):
    """Everything is told for a letter, and nothing else is delivered: whether some honest hand takes it."""
    twin = net.copy()
    honest = honest_of(twin)
    for kind in ("said", "echo", "promise"):
        for liar in twin.liars:
            if kind != "said" or liar == letter[0]:
                for hand in honest:
                    twin.lie(liar, hand, (kind, letter))
    slips = [True]
    while slips:
        # The oldest ones may be lies that were told ahead of these: what is told now needn't wait for them.
        slips = [slip[0] for slip in twin.under_way if slip[3][1] == letter]
        for number in slips:
            twin.deliver(number)
    return any(letter in twin.taken(hand) for hand in honest)


def liars_letter(chance, net):
    """Some letter of a liar: one that is told somewhere, or made up."""
    liar = chance.choice(net.liars)
    told = [slip[3][1] for slip in net.under_way]
    for hand in honest_of(net):
        for at in range(1, net.program.rounds + 1):
            said, echoes, promises = net.heard(hand, liar, at)
            told += [said] if said else []
            told += [pair[1] for pair in echoes + promises]
    known = [letter for letter in told if letter[0] in net.liars]
    if known and chance.random() < 0.85:
        return chance.choice(known)
    return (liar,) + random_letter(chance, net)[1:]


def reckoned_letter(program, house, liar, at, cells_told, values):
    """The LETTER of a liar which heard these values in the round ahead."""
    lot = tuple(sorted(values))
    heard = tuple((hand, values[hand]) for hand in lot)
    cells = later(program, house, liar, at - 1, cells_told, heard)
    return (liar, at, sent(program, house, liar, at, cells), lot)


class Takeable(Case):
    def test_at_many_moments(self):
        seen = {True: 0, False: 0}
        for chance in chances(150, 60):
            house, many = chance.choice(WITH_LIARS)
            net = led_net(chance, 0, house=house, rounds=chance.randint(1, 2), many=many)
            for at, _ in enumerate(lead(chance, net, 150, lies=0.3)):
                if at % 25 == 0:
                    letter = liars_letter(chance, net)
                    before = state(net, False)
                    told = takeable(net, letter)
                    self.assertIs(told, press(net, letter))
                    self.assertEqual(state(net, False), before)
                    seen[told] += 1
        self.assertGreater(min(seen.values()), 40)

    def test_what_is_not_takeable_is_never_taken(self):
        seen = 0
        for chance in chances(151, 60):
            house, many = chance.choice(WITH_LIARS)
            net = led_net(chance, 60, house=house, rounds=1, many=many)
            for _ in lead(chance, net, 80, lies=0.5):
                pass
            wrong = [letter for letter in [liars_letter(chance, net) for _ in range(12)] if not takeable(net, letter)]
            seen += len(wrong)
            for _ in lead(chance, net, 300, lies=0.3):
                pass
            net.rest()
            for letter in wrong:
                self.assertFalse(takeable(net, letter))
                for hand in honest_of(net):
                    self.assertNotIn(letter, net.taken(hand))
        self.assertGreater(seen, 100)

    def test_taken_ones(self):
        for chance in chances(152, 20):
            net = led_net(chance, 0, house=(4, 1), rounds=1, many=1)
            liar, = net.liars
            letter = (liar, 1, 77, ())
            do_all(net, said_to(net, liar, tuple(honest_of(net)), letter))
            while not any(letter in net.taken(hand) for hand in honest_of(net)):
                self.assertTrue(takeable(net, letter))
                net.deliver(chance.choice(net.under_way)[0])
            self.assertTrue(takeable(net, letter))
            self.assertFalse(takeable(net, (liar, 1, 78, ())))
            net.rest()
            self.assertTrue(takeable(net, letter))

    def test_untouched_letters(self):
        for house, many in WITH_LIARS:
            net = led_net(next(chances(153, 1)), 0, house=house, rounds=2, many=many)
            for liar in net.liars:
                for letter in ((liar, 1, 0, 0), (liar, 2, -9999, tuple(range(house[0]))), (liar, 1, 9, ())):
                    self.assertTrue(takeable(net, letter))

    def test_promises_that_came(self):
        """Promises of t + 1 hands are enough for a promise, though a hand echoed another letter."""
        net = Net(GREATEST, (4, 1), (5, 2, 7, None), (3,))
        one, other = (3, 1, 9, 9), (3, 1, 8, 8)
        do_all(net, two_faced(net, 3, one, other, (0,)))
        net.rest()
        self.assertEqual([takeable(net, one), takeable(net, other)], [False, True])
        for hand in (1, 2):
            net.deliver(net.lie(3, hand, ("echo", one)))
        # Hand 0 alone can still hear three echoes of the other one: its promise and the liar's are enough for the rest.
        self.assertEqual([takeable(net, one), takeable(net, other)], [False, True])
        net.deliver(net.lie(3, 0, ("echo", one)))
        self.assertEqual([takeable(net, one), takeable(net, other)], [False, False])

    def test_one_promise_is_not_enough(self):
        """Hand 0 alone can be brought to promise, by the liar's echo, and to hear the liar's promise."""
        net = Net(GREATEST, (4, 1), (5, 2, 7, None), (3,))
        one, other = (3, 1, 9, 9), (3, 1, 8, 8)
        do_all(net, two_faced(net, 3, one, other, (0, 1)))
        for kind in ("echo", "promise"):
            for hand in (1, 2):
                net.lie(3, hand, (kind, other))
        net.rest()
        self.assertIs(press(net, one), False)
        self.assertIs(takeable(net, one), False)
        self.assertTrue(net.deliver(net.lie(3, 0, ("echo", one))) is None and net.heard(0, 3, 1)[2])
        self.assertIs(takeable(net, one), False)

    def test_lies_under_way_need_not_come_first(self):
        net = Net(GREATEST, (4, 1), (5, 2, 7, None), (3,))
        do_all(net, said_to(net, 3, (0, 1, 2), (3, 1, 9, 9)))
        do_all(net, backed(net, 3, (3, 1, 9, 9)))
        self.assertTrue(takeable(net, (3, 1, 8, 8)))
        net.rest()
        self.assertFalse(takeable(net, (3, 1, 8, 8)))


class Passing(Case):
    def told_anew(self, net, liar):
        """What passing tells, told anew by what told_all tells."""
        program, house = net.program, net.house
        calm = told_all(net)
        if calm[liar] is None:
            rows = [(liar, 1, sent(program, house, liar, 1, begun(program, value)), value)
                    for value in input_values(program)]
            return tuple(sorted(rows))
        value, lots = calm[liar]
        at = len(lots) + 2
        if at > program.rounds:
            return ()
        known = {(one[0], one[1]): one[2] for one in letters(program, house, calm)}
        cells = begun(program, value)
        for number, lot in enumerate(lots, start=1):
            heard = tuple((hand, known[hand, number]) for hand in lot)
            cells = later(program, house, liar, number, cells, heard)
        rows = []
        for lot in options(program, house, calm, liar):
            values = {hand: known[hand, at - 1] for hand in lot}
            rows.append(reckoned_letter(program, house, liar, at, cells, values))
        return tuple(sorted(rows))

    def test_at_many_moments(self):
        rounds = set()
        for chance in chances(154, 40):
            house, many = chance.choice(WITH_LIARS)
            net = led_net(chance, 0, house=house, rounds=chance.randint(1, 3), many=many)
            for at, _ in enumerate(lead(chance, net, 500, lies=0.12)):
                if at % 60 == 0:
                    for liar in net.liars:
                        before = state(net, False)
                        told = passing(net, liar)
                        self.assertEqual(told, self.told_anew(net, liar))
                        self.assertEqual(state(net, False), before)
                        rounds.update(letter[1] for letter in told)
        self.assertLessEqual({1, 2}, rounds)

    def test_each_letter_that_is_told_comes_to_be_used(self):
        for chance in chances(155, 25):
            net = led_net(chance, 60, house=(4, 1), rounds=2, many=0)
            net = Net(net.program, (4, 1), (*net.inputs[:3], None), (3,))
            rounds = chance.randint(0, 1)
            for _ in range(rounds):
                do_all(net, said_to(net, 3, (0, 1, 2), chance.choice(passing(net, 3))))
                for _ in lead(chance, net, chance.randint(0, 80), lies=0):
                    pass
            if rounds and (3, 1) not in [letter[:2] for letter in net.used(0) + net.used(1) + net.used(2)]:
                net.rest()
            told = passing(net, 3)
            for letter in chance.sample(told, min(4, len(told))):
                self.comes_to_be_used(net, letter, True)
            for letter in told[:2]:
                for wrong in self.bent(net, letter):
                    if wrong not in told:
                        self.comes_to_be_used(net, wrong, False)

    def bent(self, net, letter):
        liar, at, value, claim = letter
        bent = [(liar, at, value + 1, claim), (liar, at, value, ()), (liar, at, value - 1, claim)]
        if at == 1:
            return bent + [(liar, 1, value, net.program.inputs[1] + 1), (liar, 1, value, (0, 1, 3))]
        return bent + [(liar, at, value, (0, 1, 2)), (liar, at, value, 0), (liar, at, value, (0, 1, 2, 3))]

    def comes_to_be_used(self, net, letter, comes):
        twin = net.copy()
        do_all(twin, said_to(twin, 3, (0, 1, 2), letter))
        twin.rest()
        for hand in (0, 1, 2):
            self.assertEqual(letter in twin.used(hand), comes, letter)

    def test_behind_the_last_round(self):
        one = Program("inputs 0 3\ncells x\nround x\nput x greatest\nsay x")
        net = Net(one, (4, 1), (1, 2, 3, None), (3,))
        self.assertEqual(passing(net, 3), ((3, 1, 0, 0), (3, 1, 1, 1), (3, 1, 2, 2), (3, 1, 3, 3)))
        do_all(net, said_to(net, 3, (0, 1, 2), (3, 1, 2, 2)))
        net.rest()
        self.assertEqual(passing(net, 3), ())

    def test_two_liars(self):
        net = Net(GREATEST, (7, 2), (1, 2, 3, 4, 5, None, None), (5, 6))
        do_all(net, said_to(net, 5, (0, 1, 2, 3, 4), (5, 1, 9, 9)))
        net.rest()
        self.assertEqual([len(passing(net, 5)), len(passing(net, 6))], [5, 10])
        do_all(net, said_to(net, 6, (0, 1, 2, 3, 4), (6, 1, 0, 0)))
        net.rest()
        self.assertEqual([len(passing(net, 5)), len(passing(net, 6))], [15, 15])
        for letter in passing(net, 6):
            self.assertEqual((len(letter[3]), 6 in letter[3]), (5, True))

    def test_ascending_by_values(self):
        turned = Program("inputs 0 9\ncells x\nround turn x\nput x greatest\nsay x")
        net = Net(turned, (4, 1), (1, 2, 3, None), (3,))
        self.assertEqual(passing(net, 3)[:2], ((3, 1, -9, 9), (3, 1, -8, 8)))


class Telling(Case):
    def test_deeds(self):
        net = Net(GREATEST, (7, 2), (1, None, 3, 4, 5, None, 7), (1, 5))
        honest, one, other = (0, 2, 3, 4, 6), (5, 1, 9, 9), (5, 1, 8, 8)
        before = state(net)
        self.assertEqual(said_to(net, 5, honest, one), tuple(("lie", 5, hand, ("said", one)) for hand in honest))
        self.assertEqual(said_to(net, 5, (2, 6), one), (("lie", 5, 2, ("said", one)), ("lie", 5, 6, ("said", one))))
        self.assertEqual(said_to(net, 5, (), one), ())
        self.assertEqual(two_faced(net, 5, one, other, (2, 6)), tuple(
            ("lie", 5, hand, ("said", one if hand in (2, 6) else other)) for hand in honest
        ))
        self.assertEqual(two_faced(net, 5, one, other, ()), said_to(net, 5, honest, other))
        self.assertEqual(two_faced(net, 5, one, other, honest), said_to(net, 5, honest, one))
        wanted = tuple(("lie", 1, hand, (kind, one)) for kind in ("echo", "promise") for hand in honest)
        self.assertEqual(backed(net, 1, one), wanted)
        self.assertEqual(backed(net, 1, (0, 2, -5, ())), tuple(deed[:3] + ((deed[3][0], (0, 2, -5, ())),)
                                                              for deed in wanted))
        self.assertEqual(state(net), before)
        for deed in wanted:
            net.lie(*deed[1:])
        self.assertEqual(net.log, wanted)

    def test_followed(self):
        halves = Program(HALVES)
        for chance in chances(156, 20):
            net = led_net(chance)
            calm = told_all(net)
            for hand in range(net.house[0]):
                told = followed(net.program, net.house, calm, hand)
                self.assertEqual(told, tuple(
                    letter for letter in letters(net.program, net.house, calm) if letter[0] == hand
                ))
                self.assertEqual([letter[1] for letter in told], list(range(1, len(told) + 1)))
        self.assertEqual(followed(halves, (4, 1), (None, (4, ()), None, None), 0), ())
        self.assertEqual(followed(halves, (4, 1), (None, (4, ()), None, None), 1), ((1, 1, 4, 4),))

    def test_who_follows_is_used(self):
        """A liar that says what followed tells, of a run that comes about, is as one that does not lie."""
        for chance in chances(157, 10):
            net = Net(GREATEST, (4, 1), tuple(chance.randint(0, 9) for _ in range(3)) + (None,), (3,))
            lot = random_lot(chance, (4, 1), 3)
            calm = tuple((value, ()) for value in net.inputs[:3]) + ((chance.randint(0, 9), (lot,)),)
            told = followed(GREATEST, (4, 1), calm, 3)
            for letter in told:
                do_all(net, said_to(net, 3, (0, 1, 2), letter))
            net.rest()
            for hand in (0, 1, 2):
                self.assertLessEqual(set(told), set(net.used(hand)))


if __name__ == "__main__":
    unittest.main()
