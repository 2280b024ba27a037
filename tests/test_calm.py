"""Calm runs (section 5): random ones, beside what the document's words say, and all of a small world."""

import itertools
import unittest

from liarslate.calm import (
    alike, begins, cells_of, grown, hears, is_calm, joined, knows, least, letter_of, letters, options, says, values,
)
from liarslate.errors import NoLetter, Quarrel
from liarslate.texts import begun, input_values, later, Program, said, sent
from tests.helpers import Case, chances, HALVES, HOUSES, random_text

SMALL = Program("inputs 3 3\ncells x\nround x\nput x plus sum me\nround x\nput x sum\nsay x")
FLAT = Program("inputs 0 1\ncells x\nround x\nput x sum\nsay x")


def nobody(house):
    return (None,) * house[0]


def random_calm(chance, program, house, steps):
    """Some CALM, come to by so many steps at most, and the CALMS on its way."""
    calm = nobody(house)
    way = [calm]
    for _ in range(steps):
        hand = chance.randrange(house[0])
        if calm[hand] is None:
            calm = begins(program, house, calm, hand, chance.choice(input_values(program)))
        elif options(program, house, calm, hand):
            calm = hears(program, house, calm, hand, chance.choice(options(program, house, calm, hand)))
        way.append(calm)
    return calm, way


def worlds(seed, many, rounds=None):
    """(chance, program, house, calm, way), so many."""
    for chance in chances(seed, many):
        program = Program(random_text(chance, rounds))
        house = chance.choice(HOUSES)
        calm, way = random_calm(chance, program, house, chance.randint(0, 8 * house[0]))
        yield chance, program, house, calm, way


def heard_of(calm, hand):
    return () if calm[hand] is None else calm[hand][1]


def many_letters(program, calm, hand):
    """How many letters this hand sent."""
    return 0 if calm[hand] is None else min(program.rounds, len(calm[hand][1]) + 1)


def model_cells(program, house, calm, hand, many):
    """The cells of this hand behind its first so many lots."""
    if many == 0:
        return begun(program, calm[hand][0])
    ahead = model_cells(program, house, calm, hand, many - 1)
    lot = calm[hand][1][many - 1]
    heard = tuple((other, model_value(program, house, calm, other, many)) for other in lot)
    return later(program, house, hand, many, ahead, heard)


def model_value(program, house, calm, hand, at):
    """The value of this hand's letter of round at."""
    return sent(program, house, hand, at, model_cells(program, house, calm, hand, at - 1))


def within(calm):
    """All that is left of a CALM if hands stop earlier, or never begin; not all of them are CALMS."""
    rows = []
    for entry in calm:
        cuts = [None]
        if entry is not None:
            cuts += [(entry[0], entry[1][:many]) for many in range(len(entry[1]) + 1)]
        rows.append(cuts)
    return itertools.product(*rows)


def has_all(elder, newer):
    """Whether newer has all of elder, by hands."""
    for one, other in zip(elder, newer):
        if one is not None and (other is None or one[0] != other[0] or other[1][:len(one[1])] != one[1]):
            return False
    return True


def least_of(rows):
    """The one of these within all of which it is."""
    rows = list(rows)
    found = [one for one in rows if all(has_all(one, other) for other in rows)]
    assert len(found) == 1
    return found[0]


class Reckoning(Case):
    def test_random_runs(self):
        for chance, program, house, calm, _ in worlds(10, 150):
            self.assertTrue(is_calm(program, house, calm))
            told_values, told_says, told_letters = values(program, house, calm), says(program, house, calm), []
            self.assertEqual((len(told_values), len(told_says)), (house[0], house[0]))
            for hand in range(house[0]):
                many = many_letters(program, calm, hand)
                row = tuple(model_value(program, house, calm, hand, at) for at in range(1, many + 1))
                self.assertEqual(told_values[hand], row)
                claims = [] if calm[hand] is None else [calm[hand][0], *calm[hand][1]]
                for at in range(1, many + 1):
                    letter = (hand, at, row[at - 1], claims[at - 1])
                    self.assertEqual(letter_of(program, house, calm, hand, at), letter)
                    told_letters.append(letter)
                lots = heard_of(calm, hand)
                cells = None if calm[hand] is None else model_cells(program, house, calm, hand, len(lots))
                self.assertEqual(cells_of(program, house, calm, hand), cells)
                ended = len(lots) == program.rounds
                self.assertEqual(told_says[hand], said(program, house, hand, cells) if ended else None)
                for at in (0, many + 1, -1, True, None):
                    self.refuses(NoLetter, (hand, at), letter_of, program, house, calm, hand, at)
            self.assertEqual(letters(program, house, calm), tuple(told_letters))
            self.assertEqual(sorted(told_letters), told_letters)

    def test_nobody_has_begun(self):
        for house in HOUSES:
            calm = nobody(house)
            program = Program(HALVES)
            self.assertTrue(is_calm(program, house, calm))
            self.assertEqual(values(program, house, calm), ((),) * house[0])
            self.assertEqual(says(program, house, calm), calm)
            self.assertEqual(letters(program, house, calm), ())
            for hand in range(house[0]):
                self.assertIsNone(cells_of(program, house, calm, hand))
                self.assertEqual(options(program, house, calm, hand), ())
                self.assertEqual(knows(program, house, calm, hand), calm)

    def test_all_rounds(self):
        """One hand alone goes through all rounds, and sends no letter behind the last one."""
        for rounds in (1, 2, 3, 4):
            lines = ["inputs 0 9", "cells x"] + ["round x\nput x plus x most"] * rounds + ["say turn x"]
            program = Program("\n".join(lines))
            calm = ((3, ((0,),) * rounds),)
            told = tuple(3 * 2**at for at in range(rounds))
            self.assertEqual(values(program, (1, 0), calm), (told,))
            self.assertEqual(says(program, (1, 0), calm), (-3 * 2**rounds,))
            self.assertEqual(cells_of(program, (1, 0), calm, 0), (3 * 2**rounds,))
            self.assertEqual(len(letters(program, (1, 0), calm)), rounds)
            self.assertEqual(options(program, (1, 0), calm, 0), ())
            self.assertFalse(is_calm(program, (1, 0), ((3, ((0,),) * (rounds + 1)),)))
            self.assertIsNone(says(program, (1, 0), ((3, ((0,),) * (rounds - 1)),))[0])

    def test_claims(self):
        calm = ((3, ((0, 1, 2), (0, 1, 2))), (3, ((0, 1, 3),)), (3, ((1, 2, 3),)), (3, ()))
        self.assertEqual(
            letters(SMALL, (4, 1), calm),
            ((0, 1, 3, 3), (0, 2, 9, (0, 1, 2)), (1, 1, 3, 3), (1, 2, 10, (0, 1, 3)), (2, 1, 3, 3),
            (2, 2, 11, (1, 2, 3)), (3, 1, 3, 3)),
        )
        self.assertEqual(says(SMALL, (4, 1), calm), (30, None, None, None))


class Within(Case):
    def test_least(self):
        for chance, program, house, calm, _ in worlds(11, 120, 3):
            if sum(len(heard_of(calm, hand)) for hand in range(house[0])) > 12 or house[0] > 5:
                continue
            runs = [one for one in within(calm) if is_calm(program, house, one)]
            for hand in range(house[0]):
                for at in range(1, many_letters(program, calm, hand) + 1):
                    told = least_of([one for one in runs if many_letters(program, one, hand) >= at])
                    self.assertEqual(least(program, house, calm, hand, at), told)
                    self.assertEqual(letter_of(program, house, told, hand, at),
                        letter_of(program, house, calm, hand, at))
                told = least_of([one for one in runs if one[hand] == calm[hand]])
                self.assertEqual(knows(program, house, calm, hand), told)

    def test_least_of_great_runs(self):
        for chance, program, house, calm, _ in worlds(12, 80):
            for hand in range(house[0]):
                for at in range(1, many_letters(program, calm, hand) + 1):
                    told = least(program, house, calm, hand, at)
                    self.assertTrue(is_calm(program, house, told) and has_all(told, calm))
                    self.assertEqual(many_letters(program, told, hand), at)
                    self.assertEqual(len(heard_of(told, hand)), at - 1)
                    # A hand's letter leans on no lots of its own round or of later ones.
                    self.assertTrue(all(len(heard_of(told, other)) < at for other in range(house[0])))
                known = knows(program, house, calm, hand)
                self.assertTrue(is_calm(program, house, known) and has_all(known, calm))
                self.assertEqual(known[hand], calm[hand])
                self.assertEqual(known, knows(program, house, known, hand))

    def test_knows_has_the_last_lot(self):
        calm = ((3, ((0, 1, 2), (0, 1, 2))), (3, ((0, 1, 3),)), (3, ((1, 2, 3),)), (3, ((1, 2, 3),)))
        self.assertEqual(knows(SMALL, (4, 1), calm, 0), calm[:3] + ((3, ()),))
        self.assertEqual(least(SMALL, (4, 1), calm, 0, 2), ((3, ((0, 1, 2),)), (3, ()), (3, ()), None))
        self.assertEqual(least(SMALL, (4, 1), calm, 0, 1), ((3, ()), None, None, None))
        self.assertEqual(knows(SMALL, (4, 1), calm, 3), (None, (3, ()), (3, ()), (3, ((1, 2, 3),))))

    def test_no_letter(self):
        calm = ((3, ((0, 1, 2), (0, 1, 2))), (3, ((0, 1, 2),)), (3, ((0, 1, 2),)), None)
        for call in (letter_of, least):
            for hand, at in ((0, 0), (0, 3), (1, 3), (3, 1), (4, 1), (-1, 1), (None, 1), (0, None), ("0", "1"),
                ((), []), (True, 1), (1, True),
                             (0, (1,)), ({}, {}), (False, False)):
                self.refuses(NoLetter, (hand, at), call, SMALL, (4, 1), calm, hand, at)
            for hand, at in ((0, 1), (0, 2), (1, 2), (2, 2)):
                call(SMALL, (4, 1), calm, hand, at)


class Growing(Case):
    def test_runs_grow(self):
        for chance, program, house, calm, way in worlds(13, 60):
            for _ in range(10):
                one, other = chance.choice(way), chance.choice(way)
                self.assertIs(grown(program, house, one, other), has_all(one, other))
                self.assertTrue(grown(program, house, one, calm))
                self.assertEqual(joined(program, house, one, calm), calm)
                self.assertEqual(joined(program, house, calm, one), calm)

    def test_grown_looks_at_inputs_and_lots(self):
        entry, house = (0, ((0, 1, 2),)), (4, 1)
        base = (entry, (0, ()), (0, ()), (0, ()))
        for other, told in (
            (base, True), (((0, ((0, 1, 3),)),) + base[1:], False), (((1, ((0, 1, 2),)),) + base[1:], False),
            (((0, ()),) + base[1:], False),
            (base[:1] + ((1, ()),) + base[2:], False), (base[:3] + (None,), False),
            (base[:1] + ((0, ((1, 2, 3),)),) + base[2:], True),
        ):
            self.assertIs(grown(FLAT, house, base, other), told, other)
        self.assertIs(grown(FLAT, house, nobody(house), base), True)
        self.assertIs(grown(FLAT, house, base, nobody(house)), False)

    def test_joined(self):
        met = 0
        for chance, program, house, calm, _ in worlds(14, 60, 2):
            runs = [one for one in within(calm) if is_calm(program, house, one)] if house[0] < 5 else [calm]
            for _ in range(20):
                one, other = chance.choice(runs), chance.choice(runs)
                told = joined(program, house, one, other)
                self.assertEqual(told, least_of([run for run in runs if has_all(one, run) and has_all(other, run)]))
                met += told not in (one, other)
        self.assertGreater(met, 50)

    def test_quarrel(self):
        house = (4, 1)
        base = ((0, ((0, 1, 2),)), (0, ()), (0, ()), (0, ()))
        for other, hand in (
            (((0, ((0, 1, 3),)),) + base[1:], 0), (((1, ((0, 1, 2),)),) + base[1:], 0), (((1, ()),) + base[1:], 0),
            (base[:1] + ((1, ()), (1, ()), (1, ())), 1), (base[:2] + ((1, ((0, 1, 2),)), None), 2),
            ((None,) * 3 + ((1, ()),), 3),
        ):
            self.refuses(Quarrel, hand, joined, FLAT, house, base, other)
            self.refuses(Quarrel, hand, joined, FLAT, house, other, base)

    def test_joined_takes_from_both(self):
        house = (4, 1)
        one = ((0, ((0, 1, 2),)), (0, ()), (0, ()), None)
        other = ((0, ()), (0, ((0, 1, 3),)), None, (1, ()))
        self.assertEqual(joined(FLAT, house, one, other), (one[0], other[1], one[2], other[3]))

    def test_alike(self):
        for chance, program, house, calm, way in worlds(15, 60):
            for _ in range(10):
                one, other, hand = chance.choice(way), chance.choice(way), chance.randrange(house[0])
                told = knows(program, house, one, hand) == knows(program, house, other, hand)
                self.assertIs(alike(program, house, one, other, hand), told)
        base = ((0, ((0, 1, 2),)), (0, ()), (0, ()), (0, ()))
        changed = base[:1] + ((1, ()),) + base[2:3] + (None,)
        self.assertIs(alike(FLAT, (4, 1), base, changed, 0), False)
        self.assertIs(alike(FLAT, (4, 1), base, base[:3] + (None,), 0), True)
        self.assertIs(alike(FLAT, (4, 1), base, base[:3] + ((1, ()),), 0), True)
        self.assertIs(alike(FLAT, (4, 1), base, changed, 2), True)
        self.assertIs(alike(FLAT, (4, 1), base, changed, 3), False)


class Steps(Case):
    def test_options(self):
        for chance, program, house, calm, _ in worlds(16, 120):
            for hand in range(house[0]):
                told = options(program, house, calm, hand)
                lots = [lot for lot in itertools.combinations(range(house[0]), house[0] - house[1]) if hand in lot]
                wanted = []
                for lot in lots if calm[hand] is not None else ():
                    entry = (calm[hand][0], calm[hand][1] + (lot,))
                    if is_calm(program, house, calm[:hand] + (entry,) + calm[hand + 1:]):
                        wanted.append(lot)
                self.assertEqual(told, tuple(wanted))
                for lot in told:
                    entry = (calm[hand][0], calm[hand][1] + (lot,))
                    self.assertEqual(hears(program, house, calm, hand, lot), calm[:hand] + (entry,) + calm[hand + 1:])

    def test_begins(self):
        for house in HOUSES:
            calm = nobody(house)
            for hand in range(house[0]):
                calm = begins(FLAT, house, calm, hand, hand % 2)
                self.assertEqual(calm, tuple((one % 2, ()) if one <= hand else None for one in range(house[0])))

    def reached(self, program, house):
        """All CALMS that begins and hears come to."""
        found = {nobody(house)}
        open_runs = [nobody(house)]
        while open_runs:
            calm = open_runs.pop()
            for hand in range(house[0]):
                if calm[hand] is None:
                    following = [begins(program, house, calm, hand, value) for value in input_values(program)]
                else:
                    following = [hears(program, house, calm, hand, lot) for lot in options(program, house, calm, hand)]
                for other in following:
                    if other not in found:
                        found.add(other)
                        open_runs.append(other)
        return found

    def all_runs(self, program, house):
        """All tuples of entries of the right form that are CALMS."""
        lots = list(itertools.combinations(range(house[0]), house[0] - house[1]))
        rows = []
        for hand in range(house[0]):
            own = [lot for lot in lots if hand in lot]
            entries = [None]
            for many in range(program.rounds + 1):
                entries += itertools.product(input_values(program), itertools.product(own, repeat=many))
            rows.append(entries)
        return {calm for calm in itertools.product(*rows) if is_calm(program, house, calm)}

    def test_all_runs_are_come_to_by_steps(self):
        one = Program("inputs 0 0\ncells x\nround x\nsay x")
        two = Program("inputs 0 0\ncells x\nround x\nround x\nsay x")
        for program, house in ((one, (4, 1)), (FLAT, (3, 0)), (SMALL, (3, 0)), (two, (4, 1)), (FLAT, (1, 0)),
            (SMALL, (2, 0))):
            self.assertEqual(self.all_runs(program, house), self.reached(program, house))

    def test_a_letter_has_one_value_in_all_runs_that_have_its_least_one(self):
        for chance, program, house, calm, way in worlds(17, 40):
            for hand, at, value, claim in letters(program, house, calm):
                low = least(program, house, calm, hand, at)
                for one in way:
                    if grown(program, house, low, one):
                        self.assertEqual(letter_of(program, house, one, hand, at), (hand, at, value, claim))


if __name__ == "__main__":
    unittest.main()
