"""Waiting (section 10): what is told at each moment of nets led by chance, beside the words of the document."""

import itertools
import unittest

from liarslate.nets import Net
from liarslate.texts import Program
from liarslate.waiting import (
    all_slips, chain, first_used, late, over, shows_chain, slips_about, stand, to_rest, waits,
)
from tests.helpers import Case, chances, HOUSES
from tests.net_helpers import carry, fitting_letter, honest_of, lead, random_start, state

TWICE = Program("inputs 0 9\ncells x\nround x\nput x sum\nround x\nput x greatest\nsay x")


def of_place(letters, place):
    return [letter for letter in letters if letter[:2] == place]


def rank(letter, votes):
    """The letter that is to be told of several stands least."""
    claim = letter[3]
    return (-votes.count(letter), letter[2], 1 if isinstance(claim, tuple) else 0, claim)


def model_stand(net, hand, other, at):
    """stand, by what section 8 tells of the hand."""
    n, t = net.house
    used = [letter[:2] for letter in net.used(hand)]
    if (other, at) in used:
        return ("used",)
    taken = of_place(net.taken(hand), (other, at))
    if taken:
        claim = taken[0][3]
        is_lot = isinstance(claim, tuple) and len(claim) == n - t and other in claim
        rows = tuple((one, at - 1) for one in claim if (one, at - 1) not in used) if is_lot and at > 1 else ()
        return ("leaning", rows) if rows else ("wrong",)
    _, echoes, promises = net.heard(hand, other, at)
    for word, votes in (("promised", promises), ("echoed", echoes)):
        told = [letter for _, letter in votes]
        if told:
            best = sorted(told, key=lambda letter: rank(letter, told))[0]
            return (word, best, told.count(best))
    return ("nothing",)


def later_letter(chance, net, liar):
    """A letter of this liar of a later round, which leans on letters of the round ahead."""
    others = chance.sample([hand for hand in range(net.house[0]) if hand != liar], net.house[0] - net.house[1] - 1)
    return (liar, chance.randint(2, net.program.rounds), chance.randint(-3, 3), tuple(sorted([liar, *others])))


def moments(seed, total, deeds=120, **start):
    """(chance, net) of nets at each moment: lies of all kinds, and letters of liars that fit, or lean on others."""
    for chance in chances(seed, total):
        net = Net(*random_start(chance, **start))
        yield chance, net
        for liar in net.liars:
            letters = [fitting_letter(chance, net, liar)]
            if net.program.rounds > 1:
                letters.append(later_letter(chance, net, liar))
            for letter in letters:
                for hand in honest_of(net):
                    net.lie(liar, hand, ("said", letter))
        for _ in lead(chance, net, deeds, None, (), 0.1):
            yield chance, net
        net.rest()
        yield chance, net


class Standing(Case):
    def test_stand_and_waits(self):
        met = {}
        for chance, net in itertools.chain(moments(70, 30), moments(77, 10, 250, house=(4, 1), many=1, rounds=2)):
            honest, hands = honest_of(net), range(net.house[0])
            for hand in honest:
                for other in hands:
                    for at in range(1, net.program.rounds + 1):
                        told = stand(net, hand, other, at)
                        self.assertEqual(told, model_stand(net, hand, other, at))
                        met[told[0]] = met.get(told[0], 0) + 1
                at = net.at_round(hand)
                rows = [(other, stand(net, hand, other, at)) for other in hands]
                wanted = () if net.says[hand] is not None else tuple(row for row in rows if row[1] != ("used",))
                self.assertEqual(waits(net, hand), wanted)
                self.assertEqual(wanted == (), net.says[hand] is not None)
        self.assertTrue(all(met.get(word, 0) > 20 for word in (
            "used", "leaning", "wrong", "promised", "echoed", "nothing")), met)

    def test_each_answer(self):
        """One letter of a liar, step by step: nothing, echoed, promised, leaning, used; and wrong ones."""
        net = Net(TWICE, (4, 1), (1, 2, 3, None), (3,))
        letter, first = (3, 2, 12, (0, 1, 3)), (3, 1, 9, 9)
        self.assertEqual(stand(net, 0, 3, 2), ("nothing",))
        net.deliver(net.lie(3, 0, ("echo", letter)))
        self.assertEqual(stand(net, 0, 3, 2), ("echoed", letter, 1))
        net.deliver(net.lie(3, 0, ("said", letter)))
        self.assertEqual(stand(net, 0, 3, 2), ("echoed", letter, 2))
        net.deliver(net.lie(3, 0, ("promise", letter)))
        self.assertEqual(stand(net, 0, 3, 2), ("promised", letter, 1))
        net.deliver(net.lie(3, 1, ("said", letter)))
        net.deliver(net.lie(3, 2, ("said", letter)))
        net.rest()
        self.assertEqual(stand(net, 0, 3, 2), ("leaning", ((3, 1),)))
        for hand in (0, 1, 2):
            net.lie(3, hand, ("said", first))
        net.rest()
        self.assertEqual(stand(net, 0, 3, 2), ("used",))
        for wrong in ((3, 1, 9, 8), (3, 1, 9, (0, 1, 3)), (3, 2, 12, 12), (3, 2, 12, (0, 1, 2)), (3, 2, 12, (0, 3)),
            (3, 2, 12, (0, 1, 2, 3)), (3, 2, 12, ())):
            net = Net(TWICE, (4, 1), (1, 2, 3, None), (3,))
            for hand in (0, 1, 2):
                net.lie(3, hand, ("said", wrong))
            net.rest()
            self.assertEqual(stand(net, 0, *wrong[:2]), ("wrong",), wrong)

    def test_leaning_turns_wrong(self):
        """A letter with another value than its claim tells leans, until all that it claims is used."""
        net = Net(TWICE, (4, 1), (1, 2, 3, None), (3,))
        for hand in (0, 1, 2):
            net.lie(3, hand, ("said", (3, 2, 13, (0, 1, 3))))
        self.assertEqual(net.rest() and stand(net, 1, 3, 2), ("leaning", ((3, 1),)))
        for hand in (0, 1, 2):
            net.lie(3, hand, ("said", (3, 1, 9, 9)))
        self.assertEqual(net.rest() and stand(net, 1, 3, 2), ("wrong",))

    def test_leaning_on_several(self):
        net = Net(TWICE, (4, 1), (1, 2, 3, None), (3,))
        letter = (3, 2, 12, (0, 1, 3))
        for hand in (0, 1, 2):
            for kind in ("said", "echo", "promise"):
                net.lie(3, hand, (kind, letter))
        for slip in net.under_way:
            if slip[1] == 3:
                net.deliver(slip[0])
        carry(net, lambda slip: slip[3][1] == letter)
        self.assertEqual(stand(net, 0, 3, 2), ("leaning", ((0, 1), (1, 1), (3, 1))))
        self.assertEqual(chain(net, 0)[0][1], 1)

    def test_of_several_letters(self):
        """Most hands first; of as many the least value, then a VALUE ahead of tuples, then as Python sorts."""
        net = Net(TWICE, (7, 2), (1, 2, 3, 4, 5, None, None), (5, 6))
        for votes, wanted in (
            (((5, 1, 4, 4), (5, 1, 3, 9)), (5, 1, 3, 9)), (((5, 1, -1, (0,)), (5, 1, 0, 0)), (5, 1, -1, (0,))),
            (((5, 1, 3, (0,)), (5, 1, 3, 9999)), (5, 1, 3, 9999)), (((5, 1, 3, 4), (5, 1, 3, -4)), (5, 1, 3, -4)),
            (((5, 1, 3, (1,)), (5, 1, 3, (0, 6))), (5, 1, 3, (0, 6))), (((5, 1, 3, (0, 1)), (5, 1, 3, (0,))),
            (5, 1, 3, (0,))), (((5, 1, 3, ()), (5, 1, 3, (0,))), (5, 1, 3, ())),
        ):
            for turned in (votes, votes[::-1]):
                for kind, word in (("echo", "echoed"), ("promise", "promised")):
                    twin = net.copy()
                    for liar, letter in zip((5, 6), turned):
                        twin.deliver(twin.lie(liar, 0, (kind, letter)))
                    self.assertEqual(stand(twin, 0, 5, 1), (word, wanted, 1))
        twin = net.copy()
        twin.deliver(twin.lie(5, 0, ("said", (5, 1, 9, 9))))
        twin.deliver(twin.lie(5, 0, ("echo", (5, 1, 9, 9))))
        twin.deliver(twin.lie(6, 0, ("echo", (5, 1, 1, 1))))
        self.assertEqual(stand(twin, 0, 5, 1), ("echoed", (5, 1, 9, 9), 2))


class Chains(Case):
    def right_chain(self, net, hand, row):
        """Whether this row is a chain, word by word."""
        used = [letter[:2] for letter in net.used(hand)]
        if row[0][1] != net.at_round(hand) or row[0] in used:
            return False
        for one, further in zip(row, row[1:]):
            told = model_stand(net, hand, *one)
            if told[0] != "leaning" or further not in told[1]:
                return False
        return not of_place(net.taken(hand), row[-1])

    def some_row(self, chance, net, hand):
        """A row by chance, each place of which leans on the next one, if it leans on any."""
        row = [(chance.randrange(net.house[0]), net.at_round(hand))]
        while model_stand(net, hand, *row[-1])[0] == "leaning":
            row.append(chance.choice(model_stand(net, hand, *row[-1])[1]))
        if chance.random() < 0.3:
            row[chance.randrange(len(row))] = (chance.randrange(net.house[0]), chance.randint(1, net.program.rounds))
        return tuple(row[chance.choice((0, 0, 0, 1)):])

    def test_chains(self):
        met = {}
        for chance, net in itertools.chain(moments(71, 40, 100), moments(78, 10, 250, house=(4, 1), many=1)):
            for hand in honest_of(net):
                if net.says[hand] is None:
                    row = chain(net, hand)
                    self.assertIsInstance(row, tuple)
                    self.assertTrue(self.right_chain(net, hand, row))
                    self.assertIs(shows_chain(net, hand, row), True)
                    some = self.some_row(chance, net, hand)
                    told = some != () and self.right_chain(net, hand, some)
                    self.assertIs(shows_chain(net, hand, some), told, some)
                    met[told, len(some)] = met.get((told, len(some)), 0) + 1
        for wanted in ((True, 1), (True, 2), (False, 0), (False, 1), (False, 2)):
            self.assertGreater(met.get(wanted, 0), 10, met)

    def test_all_chains_of_a_moment(self):
        """Hand 0 lacks (1, 1) and (3, 1); it has taken hand 3's letter of round 2, which leans on both."""
        net = Net(TWICE, (4, 1), (1, 2, 3, None), (3,))
        letter = (3, 2, 12, (0, 1, 3))
        for hand in (0, 1, 2):
            net.lie(3, hand, ("said", letter))
        for place in (letter[:2], (0, 1), (2, 1)):
            carry(net, lambda slip: slip[3][1][:2] == place)
        self.assertEqual((net.at_round(0), [one[:2] for one in net.used(0)]), (1, [(0, 1), (2, 1)]))
        for row, told in (
            (((1, 1),), True), (((3, 1),), True), (((2, 1),), False), (((0, 1),), False), (((3, 2),), False),
            (((3, 2), (1, 1)), False), (((1, 1), (3, 1)), False), ((), False), (((1, 2),), False),
        ):
            self.assertIs(shows_chain(net, 0, row), told, row)
        self.assertIn(chain(net, 0), (((1, 1),), ((3, 1),)))

    def test_longer_chains(self):
        """Hand 0 is in round 2, and lacks letters of round 1 on which one of round 2 leans."""
        net = Net(TWICE, (4, 1), (1, 2, 3, None), (3,))
        letter = (3, 2, 12, (0, 1, 3))
        for hand in (0, 1, 2):
            net.lie(3, hand, ("said", letter))
        net.lie(3, 0, ("echo", (3, 1, 9, 9)))
        carry(net, lambda slip: slip[3][1][1] == 1 or slip[3][1] == letter)
        self.assertEqual((net.at_round(0), stand(net, 0, 3, 2)), (2, ("leaning", ((3, 1),))))
        for row, told in (
            (((3, 2), (3, 1)), True), (((3, 2),), False), (((0, 2),), True), (((1, 2),), True), (((3, 1),), False),
            (((3, 2), (0, 1)), False), (((3, 2), (2, 1)), False), (((3, 2), (3, 1), (3, 1)), False),
            (((0, 2), (3, 1)), False), (((2, 2),), True),
        ):
            self.assertIs(shows_chain(net, 0, row), told, row)
        self.assertIs(shows_chain(net, 0, chain(net, 0)), True)

    def test_when_all_that_lacks_was_taken(self):
        """Hand 0 has taken all letters of its round, but they lean on one of the round ahead."""
        net = Net(TWICE, (4, 1), (1, 2, 3, 4), ())
        carry(net, lambda slip: 0 not in slip[1:3])
        self.assertEqual([net.lots(hand)[0] for hand in (1, 2, 3)], [(1, 2, 3)] * 3)
        carry(net, lambda slip: slip[3][1][:2] != (3, 1))
        self.assertEqual((net.lots(0), [one[:2] for one in net.used(0)][-1]), (((0, 1, 2),), (0, 2)))
        lean = ("leaning", ((3, 1),))
        self.assertEqual(waits(net, 0), ((1, lean), (2, lean), (3, lean)))
        self.assertIn(chain(net, 0), [((hand, 2), (3, 1)) for hand in (1, 2, 3)])
        for hand in (1, 2, 3):
            self.assertIs(shows_chain(net, 0, ((hand, 2), (3, 1))), True)
            self.assertIs(shows_chain(net, 0, ((hand, 2),)), False)


class Slips(Case):
    def test_slips_about(self):
        """Told by all that was ever seen under way."""
        for chance in chances(72, 40):
            net = Net(*random_start(chance))
            seen = {slip[0]: slip[1:] for slip in net.under_way}
            for at, _ in enumerate(lead(chance, net, 150, None, (), 0.1)):
                seen.update((slip[0], slip[1:]) for slip in net.under_way)
                if at % 15 == 0:
                    self.same_slips(net, list(seen.values()))

    def same_slips(self, net, rows):
        for hand in range(net.house[0]):
            for at in range(1, net.program.rounds + 1):
                about = [row[2][0] for row in rows if row[0] not in net.liars and row[2][1][:2] == (hand, at)]
                wanted = tuple(about.count(kind) for kind in ("said", "echo", "promise"))
                self.assertEqual(slips_about(net, hand, at), wanted)

    def test_all_slips(self):
        for house in HOUSES:
            n, _ = house
            for rounds in (1, 2, 3, 4):
                text = "inputs 0 9\ncells x\n" + "round x\nput x least\n" * rounds + "say x"
                net = Net(Program(text), house, tuple(range(n)), ())
                net.rest()
                self.assertEqual(all_slips(house, rounds), net.sent)
                for hand in range(n):
                    wanted = (n - 1, n * (n - 1), n * (n - 1))
                    self.assertEqual(slips_about(net, hand, rounds), wanted)

    def test_to_rest_and_over(self):
        for chance, net in moments(73, 40, 60):
            if net.under_way and chance.random() < 0.9:
                continue
            before, told = state(net), to_rest(net)
            self.assertEqual(state(net), before)
            self.assertEqual(net.copy().rest(), told)
            ended = all(net.says[hand] is not None for hand in honest_of(net))
            self.assertIs(over(net), net.under_way == () and ended)
            if not net.under_way:
                self.assertEqual((told, ended), (0, True))

    def test_over(self):
        net = Net(TWICE, (4, 1), (1, 2, 3, None), (3,))
        self.assertIs(over(net), False)
        net.rest()
        self.assertIs(over(net), True)
        net.lie(3, 0, ("echo", (3, 1, 0, 0)))
        self.assertIs(over(net), False)
        self.assertIs(over(Net(TWICE, (1, 0), (1,), ())), True)


class Times(Case):
    def test_first_used(self):
        for chance in chances(74, 50):
            net = Net(*random_start(chance))
            wanted = {}
            self.keep(net, wanted)
            for _ in lead(chance, net, 150, None, (), 0.15):
                self.keep(net, wanted)
            for hand in honest_of(net):
                for letter in net.taken(hand):
                    rows = wanted.get(letter, {})
                    self.assertEqual(first_used(net, letter), tuple(sorted(rows.items())))
            self.assertEqual(first_used(net, (0, 1, 9999, 9999)), ())

    def keep(self, net, wanted):
        """Keeps of each letter who uses it, and how many deeds stood when it first did."""
        for hand in honest_of(net):
            for letter in net.used(hand):
                wanted.setdefault(letter, {}).setdefault(hand, len(net))

    def test_first_used_at_the_beginning(self):
        net = Net(TWICE, (1, 0), (4,), ())
        self.assertEqual(first_used(net, (0, 1, 4, 4)), ((0, 0),))
        self.assertEqual(first_used(net, (0, 2, 4, (0,))), ((0, 0),))
        self.assertEqual(first_used(net, (0, 2, 4, 4)), ())

    def test_late(self):
        met = 0
        for chance, net in moments(75, 50, 150):
            used = [set(net.used(hand)) for hand in honest_of(net)]
            some, every = set().union(*used), set.intersection(*used)
            self.assertEqual(late(net), tuple(sorted(some - every, key=lambda letter: letter[:2])))
            met += len(late(net)) > 1
        self.assertGreater(met, 100)

    def test_behind_rest(self):
        """Nobody waits, and late is (): what one used all used."""
        for chance, net in moments(76, 40, 50):
            if not net.under_way:
                self.assertEqual(late(net), ())
                self.assertIs(over(net), True)
                for hand in honest_of(net):
                    self.assertEqual(waits(net, hand), ())


if __name__ == "__main__":
    unittest.main()
