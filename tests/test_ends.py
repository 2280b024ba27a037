"""What hands can be brought to say, against a walk through all calm runs (section 11; guarantee d)."""

import unittest
from itertools import combinations, product

from liarslate.calm import is_calm, letters, says
from liarslate.ends import (
    brought, claimed, ends, for_all, net_break, shows_brought, shows_claimed, shows_for_all, shows_net_break, spans,
)
from liarslate.errors import NoBreak, Wide
from liarslate.nets import replayed
from liarslate.texts import input_values, Program
from tests.helpers import Case, chances, HOUSES, random_text
from tests.net_helpers import honest_of, lead, led_net

LOWS = Program("inputs 0 9\ncells x\nround x\nput x least\nsay x")
BITS = Program("inputs 0 1\ncells x\nround x\nput x most\nsay x")
NAMED = Program("inputs 0 1\ncells x y\nround plus x me\nput y sum\nput x heard 0 rank 1\nsay plus y turn x")
TWICE = Program("inputs 0 1\ncells x\nround x\nput x sum\nround plus x me\nput x plus x greatest\nsay x")
MOST = 200000


def entries_of(program, house, hand, value, whole):
    """All ENTRIES of a hand with this input, its lots alone being looked at."""
    n, t = house
    lots = [lot for lot in combinations(range(n), n - t) if hand in lot]
    many = [program.rounds] if whole else range(program.rounds + 1)
    return [(value, told) for times in many for told in product(lots, repeat=times)]


def all_calms(program, house, lot, inputs):
    """All CALMS that are whole for a lot, with these inputs."""
    rows = []
    for hand, value in enumerate(inputs):
        if hand in lot:
            rows.append([None])
            for brings in input_values(program):
                rows[-1] += entries_of(program, house, hand, brings, False)
        else:
            rows.append(entries_of(program, house, hand, value, True))
    return [calm for calm in product(*rows) if is_calm(program, house, calm)]


def row_in(program, house, lot, calm):
    return tuple(None if hand in lot else end for hand, end in enumerate(says(program, house, calm)))


def walked(program, house, lot, inputs):
    """All rows of ends, ascending."""
    return tuple(sorted({row_in(program, house, lot, calm) for calm in all_calms(program, house, lot, inputs)}))


def broad(program, house, many):
    """The breadth of a lot of so many hands, counted out."""
    n, t = house
    lots = len([lot for lot in combinations(range(n), n - t) if 0 in lot])
    inputs = len(input_values(program))
    return lots ** ((n - many) * program.rounds + many * (program.rounds - 1)) * inputs ** many


def lots_of(house):
    return [lot for many in range(house[1] + 1) for lot in combinations(range(house[0]), many)]


def truth(claim, row, inputs):
    """Whether a claim holds, told anew."""
    said = [value for value in row if value is not None]
    given = [value for value in inputs if value is not None]
    return {
        "alike": lambda: len(set(said)) == 1,
        "near": lambda: all(one - other <= claim[1] for one in said for other in said),
        "between": lambda: all(min(given) <= value <= max(given) for value in said),
        "among": lambda: set(said) <= set(given),
        "within": lambda: all(claim[1] <= value <= claim[2] for value in said),
    }[claim[0]]()


def some_inputs(chance, program, house, lot):
    return tuple(None if hand in lot else chance.choice(input_values(program)) for hand in range(house[0]))


def some_claims(rows):
    """Claims of all kinds, some of them just at the bounds."""
    said = [value for row in rows for value in row if value is not None]
    far = max(max(v for v in row if v is not None) - min(v for v in row if v is not None) for row in rows)
    claims = [("alike",), ("between",), ("among",), ("near", far), ("near", far + 1), ("near", 0)]
    claims += [("within", min(said), max(said)), ("within", min(said) + 1, max(said) + 1)]
    claims += [("within", min(said) - 1, max(said) - 1), ("within", -99999, 99999)]
    return claims + ([("near", far - 1)] if far else [])


class Rows(Case):
    def agrees(self, program, house, lot, inputs):
        rows = walked(program, house, lot, inputs)
        most = broad(program, house, len(lot))
        self.assertEqual(ends(program, house, lot, inputs, most), rows)
        if most > 1:
            for call in (ends, spans):
                self.refuses(Wide, most - 1, call, program, house, lot, inputs, most - 1)
        for row in rows:
            self.assertTrue(all((value is None) == (hand in lot) for hand, value in enumerate(row)))
        wide = [max(v for v in row if v is not None) - min(v for v in row if v is not None) for row in rows]
        self.assertEqual(spans(program, house, lot, inputs, MOST), (min(wide), max(wide)))
        self.claims(program, house, lot, inputs, rows)

    def claims(self, program, house, lot, inputs, rows):
        for claim in some_claims(rows):
            told = claimed(program, house, lot, inputs, claim, MOST)
            self.assertTrue(shows_claimed(program, house, lot, inputs, claim, MOST, told))
            wrong = [row for row in rows if not truth(claim, row, inputs)]
            if not wrong:
                self.assertEqual(told, ("holds", len(rows)))
                self.assertFalse(shows_claimed(program, house, lot, inputs, claim, MOST, ("holds", len(rows) + 1)))
                continue
            self.assertEqual(told[0], "breaks")
            self.assertIn(row_in(program, house, lot, told[1]), wrong)
            self.assertFalse(shows_claimed(program, house, lot, inputs, claim, MOST, ("holds", len(rows))))

    def test_all_houses_of_one_to_five_hands_without_lots(self):
        for chance, house in zip(chances(110, 5), [house for house in HOUSES if house[1] == 0 and house[0] <= 5]):
            for rounds in (1, 2):
                program = Program(random_text(chance, rounds))
                self.agrees(program, house, (), some_inputs(chance, program, house, ()))

    def test_all_lots_of_one_round(self):
        for house in ((4, 1), (5, 1)):
            for chance, lot in zip(chances(111, 9), lots_of(house)):
                for program in (BITS, NAMED, Program(random_text(chance, 1, (0, 1)))):
                    self.agrees(program, house, lot, some_inputs(chance, program, house, lot))

    def test_two_rounds(self):
        for chance, lot in zip(chances(112, 3), ((3,), (0,), ())):
            for program in (TWICE, Program(random_text(chance, 2, (4, 5)))):
                self.agrees(program, (4, 1), lot, some_inputs(chance, program, (4, 1), lot))

    def test_some_programs_by_chance(self):
        for chance in chances(113, 12):
            program = Program(random_text(chance, 1, (3, 5)))
            lot = chance.choice(lots_of((4, 1)))
            self.agrees(program, (4, 1), lot, some_inputs(chance, program, (4, 1), lot))

    def test_breadths_of_the_document(self):
        self.assertEqual(broad(LOWS, (4, 1), 1), 270)
        rows = ends(LOWS, (4, 1), (3,), (1, 5, 9, None), 270)
        self.assertEqual(len(rows), 20)
        self.assertEqual(ends(LOWS, (4, 1), (), (1, 5, 9, 9), 81), walked(LOWS, (4, 1), (), (1, 5, 9, 9)))
        self.refuses(Wide, 80, ends, LOWS, (4, 1), (), (1, 5, 9, 9), 80)
        self.assertEqual(broad(TWICE, (7, 2), 2), 15 ** 12 * 4)
        self.refuses(Wide, MOST, ends, TWICE, (7, 2), (0, 6), (None, 1, 1, 1, 1, 1, None), MOST)

    def test_of_two_lots_the_smaller_one_leaves_less(self):
        """Who is of a lot and follows the program is as one who is not."""
        for value in (0, 1):
            few = ends(BITS, (4, 1), (), (0, 1, 1, value), MOST)
            many = ends(BITS, (4, 1), (3,), (0, 1, 1, None), MOST)
            self.assertLessEqual({row[:3] for row in few}, {row[:3] for row in many})


class Everything(Case):
    def agrees(self, program, house, claim):
        n, t = house
        starts = len(input_values(program)) ** (n - t)
        most = broad(program, house, t) * len(list(combinations(range(n), t))) * starts
        told = for_all(program, house, claim, most)
        self.assertTrue(shows_for_all(program, house, claim, most, told))
        if most > 1:
            self.refuses(Wide, most - 1, for_all, program, house, claim, most - 1)
            self.refuses(Wide, most - 1, shows_for_all, program, house, claim, most - 1, told)
            self.refuses(Wide, most - 1, net_break, program, house, claim, most - 1)
        if self.breaks_somewhere(program, house, claim):
            self.break_is_right(program, house, claim, told, most)
        else:
            self.assertEqual(told, ("holds",))
            self.refuses(NoBreak, None, net_break, program, house, claim, most)
            self.refuses(NoBreak, None, shows_net_break, program, house, claim, most, None)
        return told[0]

    def breaks_somewhere(self, program, house, claim):
        for lot in combinations(range(house[0]), house[1]):
            values = [(None,) if hand in lot else input_values(program) for hand in range(house[0])]
            for inputs in product(*values):
                if not all(truth(claim, row, inputs) for row in walked(program, house, lot, inputs)):
                    return True
        return False

    def break_is_right(self, program, house, claim, told, most):
        word, lot, calm = told
        inputs = tuple(None if hand in lot else entry[0] for hand, entry in enumerate(calm))
        self.assertEqual((word, len(lot)), ("breaks", house[1]))
        self.assertIn(calm, all_calms(program, house, lot, inputs))
        self.assertFalse(truth(claim, row_in(program, house, lot, calm), inputs))
        self.assertFalse(shows_for_all(program, house, claim, most, ("holds",)))
        given, liars, log = net_break(program, house, claim, most)
        net = replayed(program, house, given, liars, log)
        self.assertNotIn(None, [net.says[hand] for hand in honest_of(net)])
        self.assertFalse(truth(claim, net.says, given))
        self.assertTrue(shows_net_break(program, house, claim, most, (given, liars, log)))

    def test_among_four(self):
        told = [self.agrees(BITS, (4, 1), claim) for claim in (
            ("alike",), ("among",), ("between",), ("near", 0), ("near", 1), ("within", 0, 1), ("within", 1, 1),
        )]
        self.assertEqual(told, ["breaks", "holds", "holds", "breaks", "holds", "holds", "breaks"])

    def test_liars_bring_what_nobody_has(self):
        mixed = Program("inputs 0 1\ncells x\nround x\nput x plus least greatest\nsay x")
        for claim, word in ((("among",), "breaks"), (("between",), "breaks"), (("within", 0, 2), "holds")):
            self.assertEqual(self.agrees(mixed, (4, 1), claim), word)

    def test_without_liars(self):
        for house in ((1, 0), (2, 0), (3, 0)):
            for program in (BITS, NAMED, TWICE):
                for claim in (("alike",), ("near", 1), ("among",), ("within", -1, 2), ("between",)):
                    self.agrees(program, house, claim)

    def test_by_chance(self):
        words = []
        for chance in chances(114, 8):
            program = Program(random_text(chance, 1, (0, 1)))
            for claim in (("alike",), ("within", -1, 5)):
                words.append(self.agrees(program, (4, 1), claim))
        self.assertEqual(set(words), {"breaks", "holds"})


class Brought(Case):
    def brings(self, program, house, lot, calm):
        log = brought(program, house, lot, calm)
        inputs = tuple(None if hand in lot else entry[0] for hand, entry in enumerate(calm))
        net = replayed(program, house, inputs, lot, log)
        told = letters(program, house, calm)
        for hand in honest_of(net):
            self.assertEqual(net.lots(hand), calm[hand][1])
            self.assertLessEqual(set(net.used(hand)), set(told))
        self.assertEqual(net.says, row_in(program, house, lot, calm))
        self.assertTrue(shows_brought(program, house, lot, calm, log))
        return net

    def test_calms_of_one_and_of_two_rounds(self):
        for chance, lot in zip(chances(115, 5), lots_of((4, 1))):
            for program in (NAMED, TWICE):
                inputs = some_inputs(chance, program, (4, 1), lot)
                calms = all_calms(program, (4, 1), lot, inputs)
                for calm in chance.sample(calms, min(len(calms), 12)):
                    self.brings(program, (4, 1), lot, calm)

    def test_without_lots(self):
        for chance, house in zip(chances(116, 5), ((1, 0), (2, 0), (4, 0), (5, 0), (7, 0))):
            inputs = some_inputs(chance, TWICE, house, ())
            lot = tuple(range(house[0]))
            calm = tuple((value, (lot,) * 2) for value in inputs)
            self.brings(TWICE, house, (), calm)

    def test_greater_houses(self):
        for chance in chances(117, 12):
            house = chance.choice(((5, 1), (6, 1), (7, 1), (7, 2)))
            program = Program(random_text(chance, chance.randint(1, 3)))
            lot = tuple(sorted(chance.sample(range(house[0]), chance.randint(0, house[1]))))
            calm = self.random_whole(chance, program, house, lot)
            self.brings(program, house, lot, calm)

    def random_whole(self, chance, program, house, lot):
        """A CALM that is whole for a lot: the hands of the lot stop somewhere."""
        n, t = house
        stops = [chance.randint(0, program.rounds + 1) if hand in lot else program.rounds + 1 for hand in range(n)]
        entries = []
        for hand in range(n):
            told = []
            for at in range(1, stops[hand]):
                others = [other for other in range(n) if stops[other] >= at and other != hand]
                told.append(tuple(sorted(chance.sample(others, n - t - 1) + [hand])))
            entries.append((chance.choice(input_values(program)), tuple(told)) if stops[hand] else None)
        self.assertTrue(is_calm(program, house, tuple(entries)))
        return tuple(entries)

    def test_what_nets_say_is_a_row_of_ends(self):
        """Guarantee (d), from the other side: whatever liars do."""
        for chance in chances(118, 40):
            house, rounds = chance.choice((((4, 1), 1), ((4, 1), 2), ((3, 0), 2), ((5, 1), 1)))
            net = led_net(chance, 0, house=house, rounds=rounds)
            low, high = net.program.inputs
            if broad(net.program, house, len(net.liars)) > 5000:
                continue
            for _ in lead(chance, net, 300, lies=0.2):
                pass
            net.rest()
            self.assertIn(net.says, ends(net.program, house, net.liars, net.inputs, MOST))


if __name__ == "__main__":
    unittest.main()
