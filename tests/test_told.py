"""Told runs and stories (section 9): what is told at each moment of nets led by chance, beside section 5."""

import unittest

from liarslate.calm import grown, is_calm, joined, knows, letters, says
from liarslate.nets import back, Net, replayed
from liarslate.texts import Program
from liarslate.told import (
    calm_of, differs, is_story, least_told, paper, shared, slowness, story, told, told_all, told_at,
)
from tests.helpers import Case, chances, HOUSES
from tests.net_helpers import fitting_letter, honest_of, lead, led_net, random_start

TOP = Program("inputs 0 9\ncells x\nround x\nput x greatest\nsay x")
TWICE = Program("inputs 0 9\ncells x\nround x\nput x sum\nround x\nput x greatest\nsay x")


def entry(used, hand):
    """What is told of this hand by its letters among these."""
    rows = sorted(letter[1::2] for letter in used if letter[0] == hand)
    return (rows[0][1], tuple(claim for _, claim in rows[1:])) if rows else None


def model_told(net, hand):
    """told, by what section 8 tells of the hand."""
    rows = [entry(net.used(hand), other) for other in range(net.house[0])]
    rows[hand] = (net.inputs[hand], net.lots(hand))
    return tuple(rows)


def letters_of(calm, hand):
    """How many letters this hand has, without regard to how many rounds there are."""
    return 0 if calm[hand] is None else len(calm[hand][1]) + 1


def nets(seed, total, deeds=None, **start):
    """Nets led by chance; in some of them liars' letters that fit come to be used."""
    for chance in chances(seed, total):
        net = led_net(chance, deeds, **start)
        for _ in range(chance.choice((0, 0, 1, 2, 3)) if net.liars else 0):
            liar = chance.choice(net.liars)
            letter = fitting_letter(chance, net, liar)
            for hand in honest_of(net):
                net.lie(liar, hand, ("said", letter))
            for _ in lead(chance, net, chance.choice((5, 50, 200, 2000)), "any", (), 0.0):
                pass
        yield chance, net


class OneRun(Case):
    def all_fits(self, net):
        """Guarantee (a): each hand's and all hands' letters are letters of one CALM; what is said comes of it."""
        program, house = net.program, net.house
        whole = told_all(net)
        self.assertTrue(is_calm(program, house, whole))
        ends = says(program, house, whole)
        self.assertEqual(tuple(None if hand in net.liars else ends[hand] for hand in range(house[0])), net.says)
        sent = letters(program, house, whole)
        union = []
        for hand in honest_of(net):
            calm = told(net, hand)
            self.assertEqual(calm, model_told(net, hand))
            self.assertTrue(is_calm(program, house, calm))
            self.assertTrue(grown(program, house, calm, whole))
            self.assertLessEqual(set(net.used(hand)), set(letters(program, house, calm)))
            self.assertEqual(whole[hand], (net.inputs[hand], net.lots(hand)))
            self.assertEqual(says(program, house, calm)[hand], net.says[hand])
            union += net.used(hand)
        self.assertLessEqual(set(union), set(sent))
        for liar in net.liars:
            self.assertEqual(whole[liar], entry(set(union), liar))
            self.assertEqual({one for one in sent if one[0] == liar}, {one for one in union if one[0] == liar})

    def test_at_every_moment(self):
        """Guarantees (a) and (b): what is told fits together, and grows with each deed."""
        for chance in chances(50, 60):
            net = Net(*random_start(chance))
            self.all_fits(net)
            for _ in lead(chance, net, 150, None, (), 0.1):
                self.all_fits(net)
            net.rest()
            self.all_fits(net)

    def test_growth(self):
        for chance in chances(51, 40):
            net = Net(*random_start(chance))
            elder = [told_all(net), shared(net)] + [told(net, hand) for hand in honest_of(net)]
            for _ in lead(chance, net, 100, None, (), 0.15):
                newer = [told_all(net), shared(net)] + [told(net, hand) for hand in honest_of(net)]
                for one, other in zip(elder, newer):
                    self.assertTrue(grown(net.program, net.house, one, other))
                elder = newer

    def test_liars_are_slow_hands(self):
        """With liars whose letters fit; at last all is used by all."""
        deepest = 0
        for chance, net in nets(52, 60, None, house=(4, 1), many=1):
            self.all_fits(net)
            deepest = max([deepest] + [letters_of(told_all(net), liar) for liar in net.liars])
            net.rest()
            self.all_fits(net)
            first = told(net, honest_of(net)[0])
            for hand in honest_of(net):
                for other in net.liars:
                    self.assertEqual(told(net, hand)[other], first[other])
        self.assertGreaterEqual(deepest, 3)

    def test_told_by_hand(self):
        net = Net(TOP, (4, 1), (5, 2, 7, None), (3,))
        self.assertEqual(told_all(net), ((5, ()), (2, ()), (7, ()), None))
        for number, _, to, slip in net.under_way:
            if to == 1 and slip[1][0] == 0:
                net.deliver(number)
        self.assertEqual(told(net, 1), (None, (2, ()), None, None))
        net.rest()
        self.assertEqual(told(net, 1), ((5, ()), (2, ((0, 1, 2),)), (7, ()), None))
        self.assertEqual(told_all(net), tuple((value, ((0, 1, 2),)) for value in (5, 2, 7)) + (None,))

    def test_one_hand_alone(self):
        net = Net(TWICE, (1, 0), (4,), ())
        whole = ((4, ((0,), (0,))),)
        self.assertEqual((told(net, 0), told_all(net), shared(net), told_at(net, 0, 0)), (whole,) * 4)
        self.assertEqual(story(net, 0), (((0, 1, 4, 4), (0,)), ((0, 2, 4, (0,)), (0,))))
        self.assertEqual(calm_of(TWICE, (1, 0), story(net, 0)), ((4, ((0,),)),))
        self.assertEqual(least_told(net, 0, (0, 1, 4, 4)), ((4, ()),))
        self.assertEqual(paper(net, 0, (0, 2, 4, (0,))), ((0,), (0,), ((0, 1, 4, 4),)))


class Parts(Case):
    def test_told_at(self):
        for chance, net in nets(53, 25, 60):
            for many in range(len(net) + 1):
                behind = replayed(net.program, net.house, net.inputs, net.liars, net.log[:many])
                for hand in honest_of(net):
                    self.assertEqual(told_at(net, hand, many), told(behind, hand))
            for hand in honest_of(net):
                self.assertEqual(told_at(net, hand, len(net)), told(net, hand))

    def greatest_within(self, net):
        """What all runs have in common, cut down until it is a CALM."""
        runs = [told(net, hand) for hand in honest_of(net)]
        rows = []
        for entries in zip(*runs):
            many = min([0 if entry is None else len(entry[1]) + 1 for entry in entries])
            self.assertEqual(len({None if many == 0 else (one[0], one[1][:many - 1]) for one in entries}), 1)
            rows.append(None if many == 0 else (entries[0][0], entries[0][1][:many - 1]))
        while not is_calm(net.program, net.house, tuple(rows)):
            for hand, one in enumerate(rows):
                for at, lot in enumerate(one[1] if one else (), start=1):
                    if any(letters_of(rows, other) < at for other in lot):
                        rows[hand] = (one[0], one[1][:at - 1])
                        break
        return tuple(rows)

    def test_shared(self):
        """It lies within all, and whatever lies within all lies within it."""
        told_some = less = 0
        for chance, net in nets(54, 120):
            calm = shared(net)
            self.assertEqual(calm, self.greatest_within(net))
            runs = [told(net, hand) for hand in honest_of(net)]
            for run in runs:
                self.assertTrue(grown(net.program, net.house, calm, run))
            told_some += any(entry is not None for entry in calm)
            less += calm not in runs
        self.assertGreater(told_some, 30)
        self.assertGreater(less, 30)

    def test_least_told(self):
        for chance, net in nets(55, 60):
            program, house = net.program, net.house
            for hand in honest_of(net):
                for letter in net.used(hand):
                    calm = least_told(net, hand, letter)
                    self.assertTrue(is_calm(program, house, calm))
                    self.assertTrue(grown(program, house, calm, told(net, hand)))
                    self.assertIn(letter, letters(program, house, calm))
                    # Without what a letter leans on it could not be there: all else is what its hand knows.
                    cut = (letter[3], ()) if letter[1] == 1 else (calm[letter[0]][0], calm[letter[0]][1])
                    self.assertEqual(calm[letter[0]], cut)
                    self.assertEqual(len(calm[letter[0]][1]), letter[1] - 1)
                    self.assertEqual(knows(program, house, calm, letter[0]), calm)

    def test_paper(self):
        met = 0
        for chance, net in nets(56, 80):
            n, t = net.house
            for hand in honest_of(net):
                for letter in net.used(hand):
                    echoers, promisers, claimed = paper(net, hand, letter)
                    _, echoes, promises = net.heard(hand, *letter[:2])
                    self.assertEqual(echoers, tuple(one for one, vote in echoes if vote == letter))
                    self.assertEqual(promisers, tuple(one for one, vote in promises if vote == letter))
                    self.assertGreaterEqual(len(promisers), 2 * t + 1 if n > 1 else 1)
                    ahead = {one[:2]: one for one in net.used(hand)}
                    wanted = () if letter[1] == 1 else tuple(ahead[one, letter[1] - 1] for one in letter[3])
                    self.assertEqual(claimed, wanted)
                    met += len(echoers) != len(echoes) or len(promisers) != len(promises)
        self.assertGreater(met, 0)

    def test_paper_tells_the_first_ones(self):
        """A hand that echoed another letter first is none of the echoers; later ones come to be among them."""
        net = Net(TOP, (7, 2), (1, 2, 3, 4, 5, None, None), (5, 6))
        letter, other = (5, 1, 9, 9), (5, 1, 8, 8)
        net.deliver(net.lie(6, 0, ("echo", other)))
        net.deliver(net.lie(6, 0, ("echo", letter)))
        for hand in range(5):
            net.deliver(net.lie(5, hand, ("said", letter)))
        for number, _, to, slip in net.under_way:
            if to == 0 and slip == ("echo", letter):
                net.deliver(number)
        net.rest()
        echoers, promisers, claimed = paper(net, 0, letter)
        self.assertEqual((echoers, promisers, claimed), ((0, 1, 2, 3, 4), (0, 1, 2, 3, 4), ()))
        net.deliver(net.lie(5, 0, ("echo", letter)))
        net.deliver(net.lie(6, 0, ("promise", letter)))
        self.assertEqual(paper(net, 0, letter)[:2], ((0, 1, 2, 3, 4, 5), (0, 1, 2, 3, 4, 6)))
        self.assertIn((letter, (0, 1, 2, 3, 4, 6)), story(net, 0))

    def test_differs_and_slowness(self):
        spread = 0
        for chance, net in nets(57, 100):
            honest = honest_of(net)
            for one in honest:
                for other in honest:
                    told_rows = []
                    for hand in range(net.house[0]):
                        mine = [letter for letter in net.used(one) if letter[0] == hand]
                        yours = [letter for letter in net.used(other) if letter[0] == hand]
                        told_rows.append(len(mine) - len(yours))
                    self.assertEqual(differs(net, one, other), tuple(told_rows))
                    spread += min(told_rows) < 0 < max(told_rows)
            rows = []
            for liar in net.liars:
                rows.append((liar, len({one for hand in honest for one in net.used(hand) if one[0] == liar})))
            self.assertEqual(slowness(net), tuple(rows))
            self.assertEqual([many for _, many in rows], [letters_of(told_all(net), liar) for liar in net.liars])
        self.assertGreater(spread, 10)

    def test_slowness_of_all_houses(self):
        for n, t in HOUSES:
            for many in range(t + 1):
                liars = tuple(range(many))
                net = Net(TOP, (n, t), tuple(None if hand in liars else 3 for hand in range(n)), liars)
                net.rest()
                self.assertEqual(slowness(net), tuple((liar, 0) for liar in liars))


class Stories(Case):
    def test_stories_of_nets(self):
        """Each is a STORY; its run lies within what is told of the hand, and is no less but for the hand itself."""
        for chance, net in nets(58, 80):
            for hand in honest_of(net):
                rows = story(net, hand)
                self.assertEqual(tuple(row[0] for row in rows), net.used(hand))
                self.assertEqual([row[1] for row in rows], [paper(net, hand, row[0])[1] for row in rows])
                self.assertIs(is_story(net.program, net.house, rows), True)
                calm, whole = calm_of(net.program, net.house, rows), told(net, hand)
                self.assertTrue(is_calm(net.program, net.house, calm))
                self.assertTrue(grown(net.program, net.house, calm, whole))
                self.assertEqual(calm[:hand] + calm[hand + 1:], whole[:hand] + whole[hand + 1:])
                self.assertEqual(joined(net.program, net.house, calm, whole), whole)
                # Any beginning of it is one, too, and so is any sequence in which nothing leans on what comes later.
                cut = chance.randint(0, len(rows))
                self.assertTrue(is_story(net.program, net.house, rows[:cut]))
                by_rounds = tuple(sorted(rows, key=lambda row: (row[0][1], -row[0][0])))
                self.assertTrue(is_story(net.program, net.house, by_rounds))
                self.assertEqual(calm_of(net.program, net.house, by_rounds), calm)

    def test_bent_stories(self):
        """Bent somewhere a story is refused: values, claims, promisers, twins, and what leans on what lacks."""
        for chance, net in nets(59, 60, None, rounds=2):
            program, house, (n, t) = net.program, net.house, net.house
            hand = honest_of(net)[0]
            rows = story(net, hand)
            if not rows:
                continue
            at = chance.randrange(len(rows))
            letter, promisers = rows[at]
            leaned = [row for row in rows if row[0][1] == 2]
            wrong = [
                (letter[:2] + (letter[2] + 1,) + letter[3:], promisers), (letter, promisers[:2 * t]),
                (letter, promisers + (n,)), (letter, promisers[::-1] if len(promisers) > 1 else ()),
                (letter, promisers + promisers[-1:]), (letter, list(promisers)), [letter, promisers], (letter,),
                (letter, promisers, ()), (letter[:3], promisers), (list(letter), promisers), letter, None,
                ((n,) + letter[1:], promisers), (letter[:1] + (3,) + letter[2:], promisers),
                (letter[:3] + (program.inputs[1] + 1,), promisers),
                (letter[:3] + (tuple(range(n)) if t else (),), promisers),
            ]
            for row in wrong:
                bent = rows[:at] + (row,) + rows[at + 1:]
                self.assertIs(is_story(program, house, bent), False, (bent, house))
                self.assertIs(is_story(program, house, rows + (row,)), False)
            self.assertIs(is_story(program, house, rows + (rows[at],)), False)
            if leaned:
                lacking = [row for row in rows if row[0][:2] != (leaned[0][0][3][0], 1)]
                self.assertIs(is_story(program, house, tuple(lacking)), False)
                self.assertIs(is_story(program, house, (leaned[0],) + rows), False)

    def test_judged_without_a_net(self):
        """What stands in a row, by hand: the least numbers of promisers, claims and values."""
        base = tuple(((hand, 1, hand, hand), (0, 1, 2)) for hand in range(4))
        last = ((3, 2, 5, (0, 2, 3)), (1, 2, 3))
        self.assertIs(is_story(TWICE, (4, 1), ()), True)
        self.assertIs(is_story(TWICE, (4, 1), base), True)
        self.assertIs(is_story(TWICE, (4, 1), base + (last,)), True)
        self.assertEqual(calm_of(TWICE, (4, 1), base + (last,)), ((0, ()), (1, ()), (2, ()), (3, ((0, 2, 3),))))
        self.assertEqual(calm_of(TWICE, (4, 1), ()), (None,) * 4)
        self.assertEqual(calm_of(TWICE, (4, 1), base[1:2]), (None, (1, ()), None, None))
        for row, told_right in (
            (((3, 2, 5, (0, 2, 3)), (0, 1, 2, 3)), True), (((3, 2, 5, (0, 2, 3)), (1, 2)), False),
            (((3, 2, 4, (0, 2, 3)), (1, 2, 3)), False), (((3, 2, 3, (0, 1, 2)), (1, 2, 3)), False),
            (((3, 2, 3, (0, 3)), (1, 2, 3)), False), (((3, 2, 6, (0, 1, 2, 3)), (1, 2, 3)), False),
            (((3, 2, 3, 3), (1, 2, 3)), False), (((2, 2, 5, (0, 2, 3)), (1, 2, 3)), True),
            (((3, 1, 3, 3), (1, 2, 3)), False), (((3, 2, 5, (0, 2, 3)), (1, 2, True)), False),
            (((3, 2, 5, (0, 2, 3)), (1, 3, 2)), False), (((3, 2, 5, (0, 2, 3)), (1, 2, 4)), False),
            (((3, 2, 5, (False, 2, 3)), (1, 2, 3)), False), (((3, 2, 5, [0, 2, 3]), (1, 2, 3)), False),
            (((3, True, 3, 3), (1, 2, 3)), False),
        ):
            self.assertIs(is_story(TWICE, (4, 1), base + (row,)), told_right, row)
        for letter, told_right in (
            ((1, 1, 9, 9), True), ((1, 1, 0, 0), True), ((1, 1, 10, 10), False), ((1, 1, -1, -1), False),
            ((1, 1, 8, 9), False), ((1, 1, 9, (1,)), False), ((1, 1, 9, ()), False), ((1, 1, 9, True), False),
            ((1, 2, 9, 9), False), ((1, 2, 9, (0, 1, 2)), False),
        ):
            self.assertIs(is_story(TWICE, (4, 1), ((letter, (0, 1, 2)),)), told_right, letter)

    def test_usual_counts_of_promises(self):
        for house in HOUSES:
            letter = (0, 1, 7, 7)
            for many in range(house[0] + 1):
                rows = ((letter, tuple(range(many))),)
                self.assertIs(is_story(TOP, house, rows), many >= 2 * house[1] + 1)

    def test_programs_tell_values(self):
        """A story of one program is none of another that sends otherwise."""
        net = Net(TWICE, (4, 1), (1, 2, 3, None), (3,))
        net.rest()
        other = Program(TWICE.text.replace("round x", "round plus x 1"))
        self.assertIs(is_story(TWICE, (4, 1), story(net, 1)), True)
        self.assertIs(is_story(other, (4, 1), story(net, 1)), False)
        self.assertIs(is_story(TOP, (4, 1), story(net, 1)), False)

    def test_back_tells_what_was_told(self):
        for chance, net in nets(60, 20, 60):
            if len(net):
                many = chance.randint(1, len(net))
                for hand in honest_of(net):
                    rows = story(back(net, many), hand)
                    self.assertEqual([row[0] for row in rows], [row[0] for row in story(net, hand)][:len(rows)])


if __name__ == "__main__":
    unittest.main()
