"""Nets with one layer off, against a model, and what falls in them (section 12; guarantee f)."""

import unittest

from liarslate.layers import fall, fallen, falls, Loose, shows_fall
from liarslate.nets import Net
from liarslate.texts import begun, input_values, later, Program, sent
from tests.helpers import Case, chances, HALVES, HOUSES, random_text
from tests.loose_helpers import LAYERS, LooseModel
from tests.net_helpers import honest_of, lead, model_state, random_start, state

ONE = Program("inputs 0 20\ncells x\nround x\nput x half plus least greatest\nsay x")
TWO = Program(HALVES)
NAMED = Program("inputs -3 2\ncells x y\nround plus me turn x\nput y heard 0 sum\nround y\nput x rank me\nsay plus x y")
SENTENCES = ("all", "on", "one", "run")


def follows(program, house, letter, used):
    """Whether a used letter is what the program tells its hand to send, by other used letters."""
    hand, at, value, claim = letter
    letters = {(one[0], one[1]): one for one in used}
    if at == 1:
        known = type(claim) is int and claim in input_values(program)
        return known and value == sent(program, house, hand, 1, begun(program, claim))
    cells = cells_behind(program, house, letters, hand, at, claim)
    return cells is not None and value == sent(program, house, hand, at, cells)


def cells_behind(program, house, letters, hand, at, claim):
    """The cells with which a hand sends in round at, None if what it claims can't be."""
    if at == 1:
        return begun(program, claim) if type(claim) is int and claim in input_values(program) else None
    if type(claim) is not tuple or len(claim) != house[0] - house[1] or hand not in claim:
        return None
    if not all((other, at - 1) in letters for other in claim):
        return None
    cells = cells_behind(program, house, letters, hand, at - 1, letters[hand, at - 1][3])
    heard = tuple((other, letters[other, at - 1][2]) for other in claim)
    return None if cells is None else later(program, house, hand, at - 1, cells, heard)


def told_fallen(loose):
    """What fallen tells, told anew."""
    honest = honest_of(loose)
    taken = [set(loose.taken(hand)) for hand in honest]
    places = [{(letter[:2], letter) for letter in rows} for rows in taken]
    unlike = any(one[0] == other[0] and one != other for rows in places for one in rows
                 for more in places for other in more)
    found = {"one"} if unlike else set()
    if not loose.under_way:
        found |= {"all"} if any(rows != taken[0] for rows in taken) else set()
        found |= {"on"} if any(loose.says[hand] is None for hand in honest) else set()
        for hand in honest:
            used = loose.used(hand)
            if not all(follows(loose.program, loose.house, letter, used) for letter in used):
                found.add("run")
    return tuple(sorted(found))


def do_deeds(loose, deeds):
    for deed in deeds:
        if deed == ("rest",):
            loose.rest()
        elif deed[0] == "deliver":
            loose.deliver(deed[1])
        else:
            loose.lie(*deed[1:])


class Going(Case):
    def test_goes_as_its_words_tell(self):
        for number, layer in enumerate(LAYERS):
            for chance in chances(120 + number, 14):
                start = random_start(chance, rounds=chance.randint(1, 2), house=chance.choice(((1, 0), (3, 0), (4, 1),
                                                                                              (5, 1), (7, 2))))
                loose, model = Loose(*start, layer), LooseModel(*start, layer)
                self.assertEqual(state(loose), model_state(model))
                for at, _ in enumerate(lead(chance, loose, 150, others=(model,), lies=0.15)):
                    if at % 10 == 0:
                        self.assertEqual(state(loose), model_state(model))
                        self.assertEqual(fallen(loose), told_fallen(loose))
                self.assertEqual(loose.rest(), model.rest())
                self.assertEqual(state(loose), model_state(model))
                self.assertEqual(fallen(loose), told_fallen(loose))
                self.assertEqual(loose.layer, layer)

    def test_greater_houses_with_many_rounds(self):
        for number, layer in enumerate(LAYERS):
            for chance in chances(124 + number, 4):
                start = random_start(chance, house=chance.choice(((6, 1), (7, 1), (7, 2))), rounds=3)
                loose, model = Loose(*start, layer), LooseModel(*start, layer)
                for _ in lead(chance, loose, 500, others=(model,), lies=0.1):
                    pass
                self.assertEqual(state(loose), model_state(model))

    def test_claims_off_uses_whatever_is_taken(self):
        loose = Loose(TWO, (4, 1), (0, 4, 8, None), (3,), "claims")
        for letter in ((3, 2, -7, ()), (3, 1, 77, 5)):
            for hand in (0, 1, 2):
                loose.lie(3, hand, ("said", letter))
        slips = [slip[0] for slip in loose.under_way]
        while loose.under_way:
            about = [slip for slip in loose.under_way if slip[3][1][:2] == (3, 2)] or loose.under_way
            loose.deliver(about[0][0])
            if about[0][3][1][:2] != (3, 2):
                self.assertTrue(all(not loose.used(hand) or loose.used(hand)[0][:2] != (3, 2) for hand in (0, 1, 2)))
        self.assertIn((3, 2, -7, ()), loose.used(0))
        self.assertLess(loose.used(0).index((3, 1, 77, 5)), loose.used(0).index((3, 2, -7, ())))
        self.assertEqual(fallen(loose), ("run",))
        self.assertTrue(slips)

    def test_values_heard_are_those_of_the_letters(self):
        tops = Program("inputs 0 9\ncells x\nround x\nput x greatest\nsay x")
        loose = Loose(tops, (4, 1), (1, 2, 3, None), (3,), "claims")
        for hand in (0, 1, 2):
            loose.deliver(loose.lie(3, hand, ("said", (3, 1, 99, ()))))
        while [slip for slip in loose.under_way if slip[3][1][0] == 3]:
            loose.deliver([slip for slip in loose.under_way if slip[3][1][0] == 3][0][0])
        loose.rest()
        self.assertEqual((loose.says, loose.cells(0)), ((99, 99, 99, None), (99,)))

    def test_promises_off(self):
        loose = Loose(ONE, (4, 1), (0, 10, 20, None), (3,), "promises")
        for hand in (0, 1, 2):
            loose.lie(3, hand, ("promise", (3, 1, 5, 5)))
        self.assertEqual(loose.rest(), 27)
        self.assertEqual(loose.heard(0, 3, 1), (None, (), ()))
        self.assertEqual(loose.heard(0, 1, 1)[2], ())
        self.assertEqual(len(loose.heard(0, 1, 1)[1]), 3)
        self.assertEqual((loose.says, loose.sent), ((10, 10, 10, None), 27))

    def test_echoes_off(self):
        loose = Loose(ONE, (4, 1), (0, 10, 20, None), (3,), "echoes")
        for hand in (0, 1, 2):
            loose.lie(3, hand, ("echo", (3, 1, 5, 5)))
        self.assertEqual(loose.rest(), 27)
        self.assertEqual(loose.heard(0, 3, 1), (None, (), ()))
        self.assertEqual(loose.heard(0, 1, 1)[1], ())
        self.assertEqual(len(loose.heard(0, 1, 1)[2]), 3)
        self.assertEqual(loose.says, (10, 10, 10, None))

    def test_the_first_one_said_is_promised(self):
        loose = Loose(ONE, (4, 1), (0, 10, 20, None), (3,), "echoes")
        first, other = (3, 1, 5, 5), (3, 1, 6, 6)
        loose.deliver(loose.lie(3, 0, ("said", first)))
        loose.deliver(loose.lie(3, 0, ("said", other)))
        self.assertEqual(loose.heard(0, 3, 1), (first, (), ((0, first),)))
        loose.deliver(loose.lie(3, 1, ("promise", other)))
        self.assertEqual(loose.heard(1, 3, 1), (None, (), ((3, other),)))
        loose.deliver(loose.lie(3, 2, ("said", other)))
        promised = [slip[0] for slip in loose.under_way if slip[2] == 1 and slip[3] == ("promise", other)]
        loose.deliver(promised[0])
        self.assertEqual(loose.heard(1, 3, 1), (None, (), ((1, other), (2, other), (3, other))))
        self.assertEqual(loose.taken(1)[-1], other)
        loose.deliver(loose.lie(3, 1, ("said", first)))
        self.assertEqual(loose.heard(1, 3, 1)[2], ((1, other), (2, other), (3, other)))


class Equality(Case):
    def test_by_all_it_is_made_of(self):
        good = [ONE, (4, 1), (0, 10, 20, None), (3,), "claims"]
        base = Loose(*good)
        self.assertTrue(base == Loose(*good))
        self.assertFalse(base != Loose(*good))
        others = [Loose(*good[:4], layer) for layer in ("promises", "echoes")] + [
            Loose(ONE, (5, 1), (0, 10, 20, None, 1), (3,), "claims"),
            Loose(Program(ONE.text.replace("least", "most")), *good[1:]),
            Loose(TWO, (4, 1), (0, 1, 2, None), (3,), "claims"), Loose(ONE, (4, 1), (1, 10, 20, None), (3,), "claims"),
            Loose(ONE, (4, 1), (0, 10, None, 20), (2,), "claims"), Loose(ONE, (4, 0), (0, 10, 20, 0), (), "claims"),
            Net(*good[:4]), None, 5, (), "claims", [base],
        ]
        for other in others:
            self.assertFalse(base == other)
            self.assertTrue(base != other)
            self.assertFalse(other == base)
        self.assertFalse(Loose(ONE, (4, 0), (1,) * 4, (), "claims") == Loose(ONE, (4, 1), (1,) * 4, (), "claims"))

    def test_by_logs(self):
        good = [ONE, (4, 1), (0, 10, 20, None), (3,), "echoes"]
        one, other = Loose(*good), Loose(*good)
        one.deliver(0)
        self.assertFalse(one == other)
        other.deliver(1)
        self.assertFalse(one == other)
        one.deliver(1)
        other.deliver(0)
        self.assertFalse(one == other)
        twin = one.copy()
        self.assertTrue(twin == one)
        self.assertEqual(state(twin), state(one))
        twin.rest()
        self.assertEqual((len(one), one.layer, twin.layer), (2, "echoes", "echoes"))

    def test_copies_of_all_layers(self):
        for layer in LAYERS:
            for chance in chances(128, 5):
                loose = Loose(*random_start(chance), layer)
                for _ in lead(chance, loose, 60, lies=0.2):
                    pass
                twin = loose.copy()
                self.assertTrue(twin == loose)
                self.assertEqual(state(twin), state(loose))
                before = state(loose)
                twin.rest()
                self.assertEqual(state(loose), before)


class Falls(Case):
    def test_what_falls(self):
        for n in range(1, 8):
            for t in range(3):
                if n <= 3 * t:
                    continue
                told = [falls((n, t), layer) for layer in LAYERS]
                if t == 0:
                    self.assertEqual(told, [(), (), ()])
                    continue
                broken = ("all", "on", "one") if 4 * t + 2 <= n + t else ("all", "on")
                self.assertEqual(told, [("run",), ("all", "on"), broken])
        self.assertEqual([falls((n, 1), "echoes")[2:] for n in (4, 5, 6, 7)], [(), ("one",), ("one",), ("one",)])
        self.assertEqual(falls((7, 2), "echoes"), ("all", "on"))

    def test_each_fall_is_told(self):
        programs = [ONE, TWO, NAMED] + [
            Program(random_text(chance, 1 + at % 2)) for at, chance in enumerate(chances(130, 4))
        ]
        for house in HOUSES:
            for layer in LAYERS:
                for sentence in SENTENCES:
                    for program in programs:
                        self.falls_or_not(program, house, layer, sentence)

    def falls_or_not(self, program, house, layer, sentence):
        told = fall(program, house, layer, sentence)
        self.assertTrue(shows_fall(program, house, layer, sentence, told))
        wanted = sentence in falls(house, layer) and (sentence != "on" or program.rounds > 1)
        if not wanted:
            self.assertIsNone(told)
            return
        inputs, liars, deeds = told
        self.assertFalse(shows_fall(program, house, layer, sentence, None))
        loose = Loose(program, house, inputs, liars, layer)
        do_deeds(loose, deeds)
        self.assertIn(sentence, told_fallen(loose))

    def test_nothing_else_falls(self):
        """Whatever liars do, as far as they are led by chance."""
        seen = {layer: set() for layer in LAYERS}
        for number, layer in enumerate(LAYERS):
            for chance in chances(132 + number, 60):
                house = chance.choice(((1, 0), (4, 0), (4, 1), (5, 1), (6, 1), (7, 2)))
                start = random_start(chance, house=house, rounds=chance.randint(1, 2), many=house[1])
                loose = Loose(*start, layer)
                for at, _ in enumerate(lead(chance, loose, 250, lies=0.2)):
                    if at % 25 == 0:
                        self.assertLessEqual(set(fallen(loose)), set(falls(house, layer)))
                loose.rest()
                told = set(fallen(loose))
                seen[layer] |= told
                self.assertLessEqual(told, set(falls(house, layer)))
                if start[0].rounds == 1:
                    self.assertNotIn("on", told)
        self.assertEqual(seen["claims"], {"run"})
        self.assertIn("all", seen["promises"])
        self.assertIn("all", seen["echoes"])

    def test_without_liars_nothing_falls(self):
        for layer in LAYERS:
            for chance in chances(136, 6):
                loose = Loose(*random_start(chance, many=0), layer)
                self.assertLessEqual(set(fallen(loose)), set())
                loose.rest()
                self.assertEqual(fallen(loose), ())

    def test_only_at_rest(self):
        """As long as something is under way all but "one" are not broken."""
        for sentence, layer in (("all", "promises"), ("on", "promises"), ("all", "echoes"), ("run", "claims")):
            inputs, liars, deeds = fall(TWO, (4, 1), layer, sentence)
            loose = Loose(TWO, (4, 1), inputs, liars, layer)
            do_deeds(loose, deeds)
            self.assertIn(sentence, fallen(loose))
            loose.lie(3, 0, ("echo", (3, 2, 0, 0)))
            self.assertEqual(fallen(loose), ())
            loose.rest()
            self.assertIn(sentence, fallen(loose))

    def test_one_at_any_moment(self):
        inputs, liars, deeds = fall(ONE, (5, 1), "echoes", "one")
        loose = Loose(ONE, (5, 1), inputs, liars, "echoes")
        do_deeds(loose, deeds)
        while loose.under_way:
            self.assertIn("one", fallen(loose))
            loose.deliver(loose.under_way[-1][0])
        self.assertEqual(fallen(loose)[0], "all")


if __name__ == "__main__":
    unittest.main()
