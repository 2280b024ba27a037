"""What is a CALM, and what the functions of calm.py refuse in which sequence (sections 2 and 5)."""

import unittest

from liarslate import calm as calms
from liarslate.errors import BadCalm, BadHand, BadHouse, BadInput, BadLot, Begun, NoLetter, NoProgram, Quarrel
from liarslate.texts import Program
from tests.helpers import Case, HALVES, odd_values

PROGRAM = Program(HALVES)
HOUSE = (4, 1)
CALM = ((0, ((0, 1, 2),)), (4, ()), (8, ((1, 2, 3),)), (9, ()))
LATER = CALM[:1] + ((4, ((0, 1, 3),)),) + CALM[2:]
START = [PROGRAM, HOUSE, CALM]
CALLS = {
    "is_calm": START,
    "values": START,
    "cells_of": START + [1],
    "says": START,
    "letters": START,
    "letter_of": START + [0, 2],
    "grown": START + [LATER],
    "joined": START + [LATER],
    "least": START + [0, 2],
    "knows": START + [1],
    "alike": START + [LATER, 1],
    "options": START + [1],
    "hears": START + [1, (0, 1, 3)],
    "begins": [PROGRAM, HOUSE, ((0, ()), None, (8, ()), None), 3, 4],
}


def with_entry(entry, hand=0):
    return CALM[:hand] + (entry,) + CALM[hand + 1:]


WRONG = [value for value in odd_values()] + [
    5, CALM[:3], CALM + (None,), list(CALM), (None,) * 3, (None,) * 5, [None] * 4, {0: None}, CALM[0],
] + [with_entry(entry) for entry in (
    5, (), (0,), [0, ()], (0, [], ()), (0, []), (0, None), (None, ()), (True, ()), (False, ()), (-1, ()), (10, ()),
    ("0", ()), ((0,), ()),
    (0, (), ()), (0, ((0, 1),)), (0, ((0, 1, 2, 3),)), (0, ((1, 2, 3),)), (0, ([0, 1, 2],)), (0, ((0, 2, 1),)),
    (0, ((0, 1, 1),)),
    (0, ((0, 0, 1),)), (0, ((0, 1, 4),)), (0, ((-1, 0, 1),)), (0, ((0, True, 2),)), (0, ((False, 1, 2),)),
    (0, (0, 1, 2)), (0, "012"),
    (0, (None,)), (0, ((0, 1, 2), ())), (0, ((0, 1, 2), (0, 1, 2))), (0, ((0, 1, 2), (0, 2, 3))), (0, [(0, 1, 2)]),
    False, True, "",
    (0, ((0, 1, 2),) * 3), {}, ({}, ()), (0, {}), (0, ({},)),
)] + [
    # Somebody was heard who had not sent this.
    CALM[:3] + (None,), CALM[:1] + (None,) + CALM[2:], (None,) + CALM[1:2] + ((8, ((0, 1, 2),)), (9, ())),
    (CALM[0], CALM[1], (8, ((1, 2, 3), (0, 2, 3))), CALM[3]),
]


class Shapes(Case):
    def test_is_calm(self):
        for value in (CALM, LATER, (None,) * 4, CALLS["begins"][2], with_entry((9, ())), with_entry(None),
                      ((0, ((0, 1, 2), (0, 1, 2))), (0, ((0, 1, 2),)), (0, ((0, 1, 2),)), None)):
            self.assertIs(calms.is_calm(PROGRAM, HOUSE, value), True)
        for value in WRONG:
            self.assertIs(calms.is_calm(PROGRAM, HOUSE, value), False, value)

    def test_wrong_entries_of_each_hand(self):
        base = ((0, ()),) * 4
        for hand in range(4):
            lot = tuple(other for other in range(4) if other != hand)
            for entry, told in (((0, ()), True), (None, True), ((0, (lot,)), False), ((True, ()), False),
                ((10, ()), False)):
                value = base[:hand] + (entry,) + base[hand + 1:]
                self.assertIs(calms.is_calm(PROGRAM, HOUSE, value), told)

    def test_inputs_at_the_ends(self):
        program = Program("inputs -3 2\ncells x\nround x\nsay x")
        for value, told in ((-4, False), (-3, True), (0, True), (2, True), (3, False)):
            self.assertIs(calms.is_calm(program, (1, 0), ((value, ()),)), told)

    def test_calm_of_another_house_or_program(self):
        self.assertIs(calms.is_calm(PROGRAM, (4, 0), CALM), False)
        self.assertIs(calms.is_calm(PROGRAM, (5, 1), CALM), False)
        self.assertIs(calms.is_calm(Program("inputs 0 8\ncells x\nround x\nsay x"), HOUSE, CALM), False)
        self.assertIs(calms.is_calm(PROGRAM, (4, 0), ((0, ((0, 1, 2, 3),)),) + ((0, ()),) * 3), True)

    def test_several_stops(self):
        lot = (0, 2, 3, 4, 6)
        base = tuple((0, ()) if hand in lot else None for hand in range(7))
        value = ((0, (lot,)),) + base[1:]
        self.assertIs(calms.is_calm(PROGRAM, (7, 2), value), True)
        self.assertIs(calms.is_calm(PROGRAM, (7, 1), value), False)
        self.assertEqual(calms.options(PROGRAM, (7, 2), base, 0), (lot,))
        self.assertEqual(calms.options(PROGRAM, (7, 2), base, 1), ())
        self.assertEqual(len(calms.options(PROGRAM, (7, 2), ((0, ()),) * 7, 5)), 15)


class Refusals(Case):
    def test_what_is_told_here_is_all(self):
        names = "is_calm values cells_of says letters letter_of grown joined least knows alike options hears begins"
        self.assertEqual(list(CALLS), names.split())

    def call(self, name):
        return getattr(calms, name), CALLS[name]

    def test_programs_and_houses(self):
        for name in CALLS:
            call, good = self.call(name)
            call(*good)
            wrong = [value for value in odd_values() if not isinstance(value, Program)] + [HALVES, 0]
            self.refuses_each(NoProgram, call, wrong, good, 0)
            self.refuses_each(BadHouse, call,
                odd_values() + [4, [4, 1], (4, True), (3, 1), (8, 1), (6, 2), (0, 0), (4, 1, 1)], good, 1)

    def test_calms(self):
        for name in CALLS:
            if name != "is_calm":
                call, good = self.call(name)
                self.refuses_each(BadCalm, call, WRONG, good, 2)
        for name in ("grown", "joined", "alike"):
            call, good = self.call(name)
            self.refuses_each(BadCalm, call, WRONG, good, 3)

    def test_hands(self):
        for name, at in (("cells_of", 3), ("knows", 3), ("alike", 4), ("options", 3), ("hears", 3), ("begins", 3)):
            call, good = self.call(name)
            self.refuses_each(BadHand, call, odd_values() + [-1, 4, 5, 100], good, at)

    def test_lots(self):
        call, good = self.call("hears")
        wrong = odd_values() + [
            5, [0, 1, 3], (0, 1), (0, 1, 2, 3), (0, 2, 3), (1, 0, 3), (0, 1, 1), (0, 1, 4), (0, True, 3),
            (False, 1, 3), ((0, 1, 3),),
            ("0", "1", "3"), (0, 1, None), "013", (0, 1, 3, 3), (-1, 1, 3),
        ]
        self.refuses_each(BadLot, call, wrong, good, 4)
        for lot in ((0, 1, 2), (0, 1, 3), (1, 2, 3)):
            call(*good[:4], lot)
        # A right lot, some of whom have not sent this yet; behind the last round; of a hand that has not begun.
        self.refuses(BadLot, (0, 1, 2), call, PROGRAM, HOUSE, CALM, 0, (0, 1, 2))
        self.refuses(BadLot, (0, 1, 2), call, PROGRAM, HOUSE, (None, (0, ()), (0, ()), (0, ())), 1, (0, 1, 2))
        self.refuses(BadLot, (0, 1, 2), call, PROGRAM, HOUSE, (None, (0, ()), (0, ()), (0, ())), 0, (0, 1, 2))
        self.refuses(BadLot, (0,), call, PROGRAM, (1, 0), ((0, ((0,), (0,))),), 0, (0,))

    def test_begun_and_inputs(self):
        call, good = self.call("begins")
        self.refuses_each(BadInput, call, odd_values() + [-1, 10], good, 4)
        for hand in range(4):
            if good[2][hand] is None:
                for value in (0, 9):
                    self.assertEqual(call(PROGRAM, HOUSE, good[2], hand, value)[hand], (value, ()))
            else:
                self.refuses(Begun, hand, call, PROGRAM, HOUSE, good[2], hand, 4)
                self.refuses(BadInput, 10, call, PROGRAM, HOUSE, good[2], hand, 10)

    def test_sequence(self):
        none, house = (0, None, NoProgram, None), (1, (4, True), BadHouse, (4, True))
        run = (2, CALM[:3], BadCalm, CALM[:3])
        for name in CALLS:
            call, good = self.call(name)
            wrongs = [none, house] + ([run] if name != "is_calm" else [])
            if name in ("grown", "joined", "alike"):
                wrongs.append((3, [None] * 4, BadCalm, [None] * 4))
            if name == "alike":
                wrongs.append((4, True, BadHand, True))
            if name in ("cells_of", "knows", "options", "hears", "begins"):
                wrongs.append((3, 4, BadHand, 4))
            if name == "hears":
                wrongs.append((4, [0, 1, 3], BadLot, [0, 1, 3]))
            if name == "begins":
                wrongs.append((4, 10, BadInput, 10))
            if name in ("letter_of", "least"):
                wrongs.append((3, "0", NoLetter, ("0", 3)))
                wrongs.append((4, 3, NoLetter, (0, 3)))
            self.refuses_in_sequence(call, good, wrongs)

    def test_bad_calm_ahead_of_quarrel(self):
        other = with_entry((1, ()))
        self.refuses(Quarrel, 0, calms.joined, PROGRAM, HOUSE, CALM, other)
        self.refuses(BadCalm, other[:3], calms.joined, PROGRAM, HOUSE, CALM, other[:3])

    def test_by_name(self):
        told = {"program": PROGRAM, "house": HOUSE}
        self.assertIs(calms.is_calm(value=CALM, **told), True)
        self.assertEqual(calms.values(calm=CALM, **told), ((0, 4), (4,), (8, 6), (9,)))
        self.assertEqual(calms.cells_of(hand=0, calm=CALM, **told), (4,))
        self.assertEqual(calms.says(calm=CALM, **told), (None,) * 4)
        self.assertEqual(len(calms.letters(calm=CALM, **told)), 6)
        self.assertEqual(calms.letter_of(at=2, hand=2, calm=CALM, **told), (2, 2, 6, (1, 2, 3)))
        self.assertIs(calms.grown(newer=LATER, elder=CALM, **told), True)
        self.assertEqual(calms.joined(other=CALM, one=LATER, **told), LATER)
        self.assertEqual(calms.least(at=1, hand=1, calm=CALM, **told), (None, (4, ()), None, None))
        self.assertEqual(calms.knows(hand=3, calm=CALM, **told), (None, None, None, (9, ())))
        self.assertIs(calms.alike(hand=3, other=CALM, one=LATER, **told), True)
        self.assertEqual(calms.options(hand=0, calm=LATER, **told), ((0, 1, 2),))
        self.assertEqual(calms.hears(lot=(0, 1, 3), hand=1, calm=CALM, **told), LATER)
        self.assertEqual(calms.begins(value=9, hand=3, calm=(None,) * 4, **told), (None, None, None, (9, ())))


if __name__ == "__main__":
    unittest.main()
