"""Nets (section 8) beside a model that does word by word what the document tells, and what holds of all nets."""

import unittest

from liarslate.nets import back, Net, replayed
from liarslate.texts import Program
from liarslate.told import told_all
from tests.helpers import Case, chances, HALVES, HOUSES
from tests.net_helpers import (
    carry, fitting_letter, honest_of, known_letters, lead, led_net, Model, model_state, random_lies, random_start,
    state, STYLES,
)

TOP = Program("inputs 0 9\ncells x\nround x\nput x greatest\nsay x")
TWICE = Program("inputs 0 9\ncells x\nround x\nput x sum\nround x\nput x greatest\nsay x")


class Random(Case):
    def test_random_nets(self):
        """Each deed of nets of all kinds, beside the model; at last all have said, and used the same."""
        used = rested = 0
        for chance in chances(40, 110):
            start = random_start(chance)
            net, model = Net(*start), Model(*start)
            self.assertEqual(state(net), model_state(model))
            for done, _ in enumerate(lead(chance, net, chance.randint(0, 300), None, (model,), 0.1)):
                whole = done % 7 == 0
                self.assertEqual(state(net, whole), model_state(model, whole))
            if chance.random() < 0.6:
                self.assertEqual(net.rest(), model.rest())
                rested += 1
                self.gone_on(net)
            self.assertEqual(state(net), model_state(model))
            used += sum(letter[0] in net.liars for hand in honest_of(net) for letter in net.used(hand))
        self.assertGreater(used, 60)
        self.assertGreater(rested, 40)

    def gone_on(self, net):
        """Guarantee (c): at rest all have said, and used the same."""
        self.assertEqual(net.under_way, ())
        first = honest_of(net)[0]
        for hand in honest_of(net):
            self.assertIsNotNone(net.says[hand])
            self.assertEqual(len(net.lots(hand)), net.program.rounds)
            self.assertEqual(sorted(net.used(hand), key=lambda one: one[:2]),
                sorted(net.used(first), key=lambda one: one[:2]))

    def test_each_house_and_style(self):
        for house in HOUSES:
            for style in STYLES:
                for chance in chances(41, 2):
                    start = random_start(chance, house, None, house[1])
                    net, model = Net(*start), Model(*start)
                    for _ in lead(chance, net, 90, style, (model,), 0.15):
                        pass
                    self.assertEqual(state(net), model_state(model))
                    self.assertEqual(net.rest(), model.rest())
                    self.assertEqual(state(net), model_state(model))
                    self.gone_on(net)

    def test_liars_who_go_on(self):
        """Liars whose letters fit get them used in all rounds, late ones and those told to some alone, too."""
        deepest = 0
        for chance in chances(42, 40):
            start = random_start(chance, chance.choice(((4, 1), (5, 1), (7, 2))), chance.choice((None, 4)), 1)
            net, model = Net(*start), Model(*start)
            for _ in range(12):
                letter = fitting_letter(chance, net, net.liars[0])
                for hand in chance.sample(honest_of(net), chance.randint(2, len(honest_of(net)))):
                    for one in (net, model):
                        one.lie(net.liars[0], hand, ("said", letter))
                if chance.random() < 0.5:
                    self.assertEqual(net.rest(), model.rest())
                for _ in lead(chance, net, chance.randint(0, 100), None, (model,), 0.0):
                    pass
            self.assertEqual(net.rest(), model.rest())
            self.assertEqual(state(net), model_state(model))
            self.gone_on(net)
            letters = [letter for letter in net.used(honest_of(net)[0]) if letter[0] in net.liars]
            deepest = max([deepest] + [letter[1] for letter in letters])
        self.assertEqual(deepest, 4)

    def test_lies_alone(self):
        """Nothing but lies is delivered, many of them letters that nobody sent."""
        for chance in chances(43, 35):
            start = random_start(chance, chance.choice(((4, 1), (7, 2), (7, 1))), None, 1)
            net, model = Net(*start), Model(*start)
            for _ in range(30):
                for lie in random_lies(chance, net):
                    number = net.lie(*lie)
                    model.lie(*lie)
                    if chance.random() < 0.8:
                        net.deliver(number)
                        model.deliver(number)
            self.assertEqual(state(net), model_state(model))
            self.assertEqual(net.rest(), model.rest())
            self.assertEqual(state(net), model_state(model))
            self.gone_on(net)


class Beginnings(Case):
    def test_beginning(self):
        for house in HOUSES:
            for many in range(house[1] + 1):
                liars = tuple(range(house[0] - many, house[0]))
                inputs = tuple(None if hand in liars else hand for hand in range(house[0]))
                net = Net(TOP, house, inputs, liars)
                honest = honest_of(net)
                self.assertEqual((net.program, net.house, net.inputs, net.liars), (TOP, house, inputs, liars))
                self.assertEqual((len(net), net.log), (0, ()))
                if house != (1, 0):
                    self.assertEqual(net.sent, 2 * len(honest) * (len(honest) - 1))
                    self.assertEqual(net.says, (None,) * house[0])
                rows = []
                for hand in honest:
                    letter = (hand, 1, hand, hand)
                    for kind in ("said", "echo"):
                        rows += [(hand, to, (kind, letter)) for to in honest if to != hand]
                    if house != (1, 0):
                        self.assertEqual(net.heard(hand, hand, 1), (letter, ((hand, letter),), ()))
                        self.assertEqual((net.taken(hand), net.used(hand), net.lots(hand)), ((), (), ()))
                        self.assertEqual((net.cells(hand), net.at_round(hand)), ((hand,), 1))
                self.assertEqual(net.under_way, tuple((number, *row) for number, row in enumerate(rows)))

    def test_one_hand_alone(self):
        """Counts are (1, 1, 1): it has said before anything is done, and puts no slips."""
        for rounds in (1, 2, 3, 4):
            text = "inputs 0 9\ncells x y\n" + "round plus x 1\nput y plus y sum\nput x y\n" * rounds + "say turn x"
            net = Net(Program(text), (1, 0), (3,), ())
            value, letters, cells = 3, [], (3, 0)
            for at in range(1, rounds + 1):
                letters.append((0, at, cells[0] + 1, 3 if at == 1 else (0,)))
                value = cells[1] + cells[0] + 1
                cells = (value, value)
            self.assertEqual(net.says, (-value,))
            self.assertEqual((net.used(0), net.taken(0)), (tuple(letters),) * 2)
            self.assertEqual((net.lots(0), net.cells(0), net.at_round(0)), (((0,),) * rounds, cells, rounds))
            self.assertEqual((net.under_way, net.sent, net.rest(), len(net)), ((), 0, 0, 0))
            last = letters[-1]
            self.assertEqual(net.heard(0, 0, rounds), (last, ((0, last),), ((0, last),)))

    def test_two_and_three_hands(self):
        """Without liars a single promise is enough to take."""
        for n in (2, 3):
            net = Net(TOP, (n, 0), tuple(range(n)), ())
            self.assertEqual(net.rest(), n * (n - 1) * (2 * n + 1))
            self.assertEqual(net.says, (n - 1,) * n)
            self.assertEqual(net.lots(0), (tuple(range(n)),))

    def test_the_usual_counts(self):
        """How many echoes and promises it takes, by lies about a letter of a liar."""
        for house, (e, r, d) in (((4, 1), (3, 2, 3)), ((5, 1), (4, 2, 3)), ((6, 1), (4, 2, 3)), ((7, 1), (5, 2, 3)),
            ((7, 2), (5, 3, 5))):
            n, t = house
            liars = tuple(range(n - t, n))
            net = Net(TOP, house, tuple(1 if hand < n - t else None for hand in range(n)), liars)
            letter = (n - 1, 1, 2, 2)
            heard = [("echo", hand) for hand in range(1, e - t + 1)] + [("echo", liar) for liar in liars]
            for hand in range(1, e - t + 1):
                net.deliver(net.lie(n - 1, hand, ("said", letter)))
            for number, sender, to, slip in [row for row in net.under_way if row[3] == ("echo", letter)]:
                if to == 0:
                    net.deliver(number)
            for many, liar in enumerate(liars, start=1):
                self.assertEqual(net.heard(0, n - 1, 1)[2], ())
                net.deliver(net.lie(liar, 0, ("echo", letter)))
            self.assertEqual(len(net.heard(0, n - 1, 1)[1]), len(heard))
            self.assertEqual(net.heard(0, n - 1, 1)[2], ((0, letter),))
            self.assertEqual(net.taken(0), ())
            # The other ones promise as soon as they hear r promises, and take as soon as they know of d.
            for liar in liars:
                net.deliver(net.lie(liar, 1, ("promise", letter)))
            self.assertEqual([sender for sender, _ in net.heard(1, n - 1, 1)[2]], list(liars))
            number = [row[0] for row in net.under_way if row[1:] == (0, 1, ("promise", letter))][0]
            net.deliver(number)
            self.assertEqual([sender for sender, _ in net.heard(1, n - 1, 1)[2]], [0, 1] + list(liars))
            self.assertEqual(net.taken(1), (letter,) if t + 2 >= d else ())


class Using(Case):
    def all_take(self, net, letter, hands=None):
        """The liar 3 gets this letter taken by these hands of a (4, 1) net."""
        for hand in hands or honest_of(net):
            net.lie(3, hand, ("said", letter))
        net.rest()

    def test_letters_that_are_never_used(self):
        """Taken, but of no use: what they claim can't be, or their value isn't what their claim tells."""
        for letter in (
            (3, 1, 5, 4), (3, 1, 10, 10), (3, 1, -1, -1), (3, 1, 5, (0, 1, 3)), (3, 1, 5, ()), (3, 2, 9, 9),
            (3, 2, 9, (0, 1, 2)), (3, 2, 9, (0, 3)), (3, 2, 9, (0, 1, 2, 3)), (3, 2, 9, ()), (3, 2, 9, (0, 1, 3)),
            (3, 2, 16, (0, 1, 3)),
        ):
            net = Net(TWICE, (4, 1), (1, 2, 3, None), (3,))
            self.all_take(net, letter)
            for hand in (0, 1, 2):
                self.assertIn(letter, net.taken(hand), letter)
                self.assertNotIn(letter, net.used(hand), letter)
            self.assertEqual(net.says, (6, 6, 6, None))

    def test_letters_that_wait_for_others(self):
        """Round 2 of the liar comes first; it is used as soon as the letter that it leans on is."""
        net = Net(TWICE, (4, 1), (1, 2, 3, None), (3,))
        later, first = (3, 2, 12, (0, 1, 3)), (3, 1, 9, 9)
        self.all_take(net, later)
        self.assertTrue(all(later in net.taken(hand) and later not in net.used(hand) for hand in (0, 1, 2)))
        self.all_take(net, first)
        for hand in (0, 1, 2):
            self.assertEqual(net.used(hand)[-2:], (first, later))
            self.assertEqual(net.taken(hand)[-2:], (first, later))

    def test_no_letter_of_another_round_is_enough(self):
        """With another value in round 1 the letter of round 2 is wrong: its value is told by what was used."""
        net = Net(TWICE, (4, 1), (1, 2, 3, None), (3,))
        later, first = (3, 2, 12, (0, 1, 3)), (3, 1, 8, 8)
        self.all_take(net, later)
        self.all_take(net, first)
        self.assertEqual([net.used(hand)[-1] for hand in (0, 1, 2)], [first] * 3)

    def test_taken_first_is_used_first(self):
        """Several letters that become of use at once are used as they were taken."""
        for order in ((0, 1), (1, 0)):
            net = Net(TWICE, (7, 2), (1, 2, 3, 4, 5, None, None), (5, 6))
            laters = [(5, 2, 15, (0, 1, 2, 3, 5)), (6, 2, 19, (0, 1, 2, 5, 6))]
            firsts = [(6, 1, 8, 8), (5, 1, 5, 5)]
            for letter in [laters[at] for at in order] + firsts:
                for hand in range(5):
                    net.lie(letter[0], hand, ("said", letter))
                net.rest()
            self.assertEqual(net.used(0)[-4:], (*firsts, *[laters[at] for at in order]))

    def test_lots_are_of_those_used_first(self):
        """One's own letter comes last: the lot has those that were used first of the others."""
        net = Net(TOP, (4, 1), (1, 2, 3, 4), ())

        def finish(hand):
            """Hand 0 comes to use the letter of this one."""
            carry(net, lambda slip: slip[3][1][:2] == (hand, 1))
            self.assertEqual(net.used(0)[-1][:2], (hand, 1))

        for hand in (3, 1, 2):
            finish(hand)
        self.assertEqual((net.lots(0), net.says[0]), ((), None))
        finish(0)
        self.assertEqual((net.lots(0), net.says[0]), (((0, 1, 3),), 4))
        self.assertEqual([letter[0] for letter in net.used(0)], [3, 1, 2, 0])

    def test_who_has_said_goes_on(self):
        net = Net(TOP, (4, 1), (5, 2, 7, None), (3,))
        net.rest()
        self.all_take(net, (3, 1, 9, 9))
        self.assertEqual((net.says, net.used(0)[-1], net.lots(0)), ((7, 7, 7, None), (3, 1, 9, 9), ((0, 1, 2),)))

    def test_said_slips_of_others_letters(self):
        """A said slip that tells a letter of another hand counts for nothing, but echoes and promises do."""
        net = Net(TOP, (7, 2), (1, 1, 1, 1, 1, None, None), (5, 6))
        letter = (5, 1, 9, 9)
        net.deliver(net.lie(6, 0, ("said", letter)))
        self.assertEqual(net.heard(0, 5, 1), (None, (), ()))
        net.deliver(net.lie(6, 0, ("echo", letter)))
        net.deliver(net.lie(6, 0, ("promise", letter)))
        self.assertEqual(net.heard(0, 5, 1), (None, ((6, letter),), ((6, letter),)))
        net.deliver(net.lie(5, 0, ("said", (5, 1, 8, 8))))
        net.deliver(net.lie(5, 0, ("said", letter)))
        self.assertEqual(net.heard(0, 5, 1)[0], (5, 1, 8, 8))
        self.assertEqual(net.heard(0, 5, 1)[1], ((0, (5, 1, 8, 8)), (6, letter)))

    def test_no_honest_letter_is_bent(self):
        """Whatever liars echo and promise of an honest hand's letter, others take what it sent."""
        for chance in chances(44, 30):
            net = Net(*random_start(chance, (7, 2), 2, 2))
            victim = honest_of(net)[0]
            for letter in [one for one in known_letters(net) if one[0] == victim][:1]:
                for lie in ((letter[0], 1, letter[2] + 1, letter[3]), (letter[0], 2, 0, (0, 1, 2, 3, 4))):
                    for liar in net.liars:
                        for hand in honest_of(net):
                            for kind in ("said", "echo", "promise"):
                                number = net.lie(liar, hand, (kind, lie))
                                if chance.random() < 0.7:
                                    net.deliver(number)
            net.rest()
            for hand in honest_of(net):
                self.assertEqual([one for one in net.taken(hand) if one[0] == victim],
                    [net.heard(victim, victim, at)[0] for at in (1, 2)])


class Deeds(Case):
    def test_rest_takes_the_least_number(self):
        for chance in chances(45, 25):
            net = led_net(chance, 60)
            twin, before = net.copy(), len(net)
            many = net.rest()
            for number in range(many):
                least = min(slip[0] for slip in twin.under_way)
                self.assertEqual(net.log[before + number], ("deliver", least))
                twin.deliver(least)
            self.assertEqual((twin.under_way, len(net), net.rest()), ((), before + many, 0))
            self.assertTrue(twin == net)

    def test_numbers_and_logs(self):
        net = Net(TOP, (4, 1), (5, 2, 7, None), (3,))
        slip = ("echo", (3, 1, 9, 9))
        self.assertEqual(net.lie(3, 1, slip), 12)
        self.assertIsNone(net.deliver(12))
        self.assertEqual(net.lie(3, 1, slip), 13)
        self.assertEqual(net.log, (("lie", 3, 1, slip), ("deliver", 12), ("lie", 3, 1, slip)))
        self.assertEqual((net.sent, len(net)), (14, 3))
        self.assertEqual(net.under_way[-1], (13, 3, 1, slip))
        net.deliver(0)
        self.assertEqual([row[1:3] for row in net.under_way[-2:]], [(1, 0), (1, 2)])
        self.assertEqual([row[0] for row in net.under_way], list(range(1, 12)) + [13, 14, 15])

    def test_rests_number(self):
        """Without lies each letter takes n - 1 saids and n times n - 1 echoes and promises."""
        for house in HOUSES:
            for rounds in (1, 3):
                text = "inputs 0 9\ncells x\n" + "round x\nput x sum\n" * rounds + "say x"
                net = Net(Program(text), house, (1,) * house[0], ())
                total = rounds * house[0] * (house[0] - 1) * (2 * house[0] + 1)
                self.assertEqual((net.rest(), net.sent), (total, total))

    def test_replayed(self):
        for chance in chances(46, 40):
            net = led_net(chance)
            told = replayed(net.program, net.house, net.inputs, net.liars, net.log)
            self.assertTrue(told == net)
            self.assertEqual(state(told), state(net))

    def test_back(self):
        for chance in chances(47, 20):
            start = random_start(chance)
            net = Net(*start)
            states = [state(net)]
            for _ in lead(chance, net, 60):
                states.append(state(net))
            for many in range(1, len(net) + 1):
                self.assertEqual(state(back(net, many)), states[-1 - many])
            self.assertEqual(state(net), states[-1])

    def test_copies_go_on_by_themselves(self):
        for chance in chances(48, 30):
            net = led_net(chance, 40)
            before = state(net)
            twin = net.copy()
            self.assertIsNot(twin, net)
            self.assertTrue(twin == net and state(twin) == before)
            for _ in lead(chance, twin, 20):
                pass
            twin.rest()
            self.assertEqual(state(net), before)
            self.assertEqual(twin == net, len(twin) == len(net))
            third = net.copy()
            net.rest()
            self.assertEqual(state(third), before)


class Names(Case):
    """Guarantee (h): hands called otherwise, the same is told with these names."""

    def renamed(self, names, letter):
        hand, at, value, claim = letter
        if isinstance(claim, tuple):
            claim = tuple(sorted(names[one] for one in claim))
        return (names[hand], at, value, claim)

    def test_names(self):
        for chance in chances(49, 60):
            start = random_start(chance, plain=True)
            net, n = Net(*start), start[1][0]
            names = chance.sample(range(n), n)
            inputs = [None] * n
            for hand in range(n):
                inputs[names[hand]] = start[2][hand]
            other = Net(start[0], start[1], tuple(inputs), tuple(sorted(names[hand] for hand in start[3])))
            before = net.under_way
            for _ in lead(chance, net, 120, None, (), 0.1):
                self.follow(names, net.log[-1], before, other)
                before = net.under_way
            for hand in honest_of(net):
                twin = names[hand]
                self.assertEqual([self.renamed(names, one) for one in net.used(hand)], list(other.used(twin)))
                self.assertEqual({self.renamed(names, one) for one in net.taken(hand)}, set(other.taken(twin)))
                lots = [tuple(sorted(names[one] for one in lot)) for lot in net.lots(hand)]
                self.assertEqual((lots, net.cells(hand)), (list(other.lots(twin)), other.cells(twin)))
                self.assertEqual((net.says[hand], net.at_round(hand)), (other.says[twin], other.at_round(twin)))
            self.assertEqual(net.sent, other.sent)
            calm = [None] * n
            for hand, entry in enumerate(told_all(net)):
                if entry is not None:
                    lots = tuple(tuple(sorted(names[one] for one in lot)) for lot in entry[1])
                    calm[names[hand]] = (entry[0], lots)
            self.assertEqual(told_all(other), tuple(calm))

    def follow(self, names, deed, before, other):
        """The other net does this deed, too; before: what was under way ahead of it."""
        if deed[0] == "lie":
            other.lie(names[deed[1]], names[deed[2]], (deed[3][0], self.renamed(names, deed[3][1])))
            return
        sender, to, (kind, letter) = [slip[1:] for slip in before if slip[0] == deed[1]][0]
        wanted = (names[sender], names[to], (kind, self.renamed(names, letter)))
        other.deliver([slip[0] for slip in other.under_way if slip[1:] == wanted][0])


class Sizes(Case):
    def test_greatest_nets(self):
        """Seven hands, four rounds, two liars who echo and promise all that they see."""
        rounds = "round plus a b\nput c greatest\nput b least\nput a sum\n" * 4
        text = "inputs -99 -79\ncells a b c d\n" + rounds + "say a"
        net = Net(Program(text), (7, 2), (-99, None, -90, None, -85, -80, -79), (1, 3))
        for letter in [slip[3][1] for slip in net.under_way if slip[3][0] == "said"]:
            for liar in (1, 3):
                for hand in honest_of(net):
                    net.lie(liar, hand, ("promise", letter))
                    net.lie(liar, hand, ("echo", letter))
        while net.under_way:
            net.deliver(net.under_way[-1][0])
        self.assertNotIn(None, [net.says[hand] for hand in honest_of(net)])
        self.assertEqual([net.says[hand] for hand in net.liars], [None, None])

    def test_halves(self):
        net = Net(Program(HALVES), (4, 1), (0, 4, 8, 9), ())
        self.assertEqual(net.rest(), 216)
        self.assertEqual(net.says, (4,) * 4)


if __name__ == "__main__":
    unittest.main()
