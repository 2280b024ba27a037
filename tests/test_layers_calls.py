"""What Loose, falls, fall and shows_fall refuse, in which sequence, and which answers are wrong (sections 2 and 12)."""

import unittest

from liarslate.errors import (
    BadHand, BadHouse, BadInputs, BadLayer, BadLiar, BadLiars, BadRound, BadSentence, BadSlip, NoProgram, NoSlip,
)
from liarslate.layers import fall, fallen, falls, Loose, shows_fall
from liarslate.texts import Program
from tests.helpers import Case, HALVES, odd_values
from tests.loose_helpers import LAYERS
from tests.net_helpers import state
from tests.test_nets_calls import BAD_SLIPS, GOOD_LETTERS
from tests.test_texts_calls import BAD_HOUSES

PROGRAM = Program(HALVES)
HOUSE = (4, 1)
GOOD = [PROGRAM, HOUSE, (0, 4, 8, None), (3,), "claims"]
ASKED = [PROGRAM, HOUSE, "promises", "all"]
TOLD = fall(*ASKED)
LETTER = (3, 1, 9, 9)
SLIP = ("echo", LETTER)
BAD_LAYERS = odd_values() + [0, "Claims", "claim", "promise", "echo", ("claims",), ["claims"], b"claims", "claims "]
BAD_SENTENCES = odd_values() + [0, "One", "own", "heard", ("one",), ["one"], b"one", "allon", "run "]
NO_PROGRAMS = [value for value in odd_values() if not isinstance(value, Program)] + [0, HALVES, (PROGRAM,)]


class Making(Case):
    def test_each(self):
        self.refuses_each(NoProgram, Loose, NO_PROGRAMS, GOOD, 0)
        self.refuses_each(BadHouse, Loose, BAD_HOUSES, GOOD, 1)
        self.refuses_each(BadInputs, Loose, odd_values() + [
            (0, 4, 8), (0, 4, 8, 0), (0, 10, 8, None), (0, True, 8, None), [0, 4, 8, None], (None, 4, 8, None),
        ], GOOD, 2)
        wrong = [value for value in odd_values() if value not in ((), (0,))]
        self.refuses_each(BadLiars, Loose, wrong + [3, [3], (4,), (-1,), (2, 3), (True,), (None,), ((3,),)], GOOD, 3)
        self.refuses_each(BadLayer, Loose, BAD_LAYERS, GOOD, 4)
        for layer in LAYERS:
            self.assertEqual(Loose(*GOOD[:4], layer).layer, layer)

    def test_sequence(self):
        """Liars are looked at ahead of inputs, the layer last."""
        self.refuses_in_sequence(Loose, GOOD, [
            (0, None, NoProgram, None), (1, (3, 1), BadHouse, (3, 1)), (3, (4,), BadLiars, (4,)),
            (2, (0, 4, 8), BadInputs, (0, 4, 8)), (4, "run", BadLayer, "run"),
        ])

    def test_by_name(self):
        loose = Loose(layer="echoes", liars=(3,), inputs=GOOD[2], house=HOUSE, program=PROGRAM)
        number = loose.lie(slip=("promise", LETTER), to=1, liar=3)
        self.assertIsNone(loose.deliver(number=number))
        self.assertEqual(loose.heard(at=1, other=3, hand=1), (None, (), ((3, LETTER),)))
        for call in (loose.taken, loose.used, loose.lots, loose.cells, loose.at_round):
            self.assertEqual(call(hand=1), call(1))
        self.assertEqual(fallen(loose=loose), ())
        self.assertEqual(falls(layer="claims", house=HOUSE), ("run",))
        named = {"sentence": "all", "layer": "promises", "house": HOUSE, "program": PROGRAM}
        self.assertEqual(fall(**named), TOLD)
        self.assertIs(shows_fall(value=TOLD, **named), True)


class Deeds(Case):
    def setUp(self):
        self.all = [Loose(*GOOD[:4], layer) for layer in LAYERS]
        for loose in self.all:
            loose.deliver(loose.lie(3, 1, SLIP))
            loose.deliver(0)
        self.before = [state(loose) for loose in self.all]

    def tearDown(self):
        """A call that raises changes nothing."""
        self.assertEqual([state(loose) for loose in self.all], self.before)

    def test_deeds(self):
        good = [3, 1, SLIP]
        for loose in self.all:
            for number in odd_values() + [0, -1, 999]:
                self.refuses(NoSlip, number, loose.deliver, number)
            self.refuses_each(BadLiar, loose.lie, odd_values() + [0, 2, 4, -1], good, 0)
            self.refuses_each(BadHand, loose.lie, odd_values() + [3, 4, -1], good, 1)
            self.refuses_each(BadSlip, loose.lie, BAD_SLIPS, good, 2)
            twin = loose.copy()
            self.refuses_in_sequence(twin.lie, good, [
                (0, True, BadLiar, True), (1, 3, BadHand, 3), (2, ("echo", LETTER[:3]), BadSlip, ("echo", LETTER[:3])),
            ])
            for letter in GOOD_LETTERS:
                for kind in ("said", "echo", "promise"):
                    number = twin.lie(3, 2, (kind, letter))
                    self.assertEqual(twin.under_way[-1], (number, 3, 2, (kind, letter)))

    def test_hands(self):
        for loose in self.all:
            for hand in odd_values() + [3, 4, -1]:
                for call in (loose.taken, loose.used, loose.lots, loose.cells, loose.at_round):
                    self.refuses(BadHand, hand, call, hand)
            self.refuses_each(BadHand, loose.heard, odd_values() + [3, 4, -1], [0, 3, 1], 0)
            self.refuses_each(BadHand, loose.heard, odd_values() + [4, -1], [0, 3, 1], 1)
            self.refuses_each(BadRound, loose.heard, odd_values() + [0, 3, -1], [0, 3, 1], 2)
            self.refuses_in_sequence(loose.heard, [0, 3, 2], [
                (0, 3, BadHand, 3), (1, True, BadHand, True), (2, 3, BadRound, 3),
            ])

    def test_other_operators(self):
        loose = self.all[0]
        for deed in (
            lambda: loose < loose, lambda: loose + loose, lambda: 5 in loose, lambda: loose[0], lambda: list(loose),
        ):
            with self.assertRaises(TypeError):
                deed()

    def test_results_are_tuples(self):
        for loose in self.all:
            self.assertIsInstance(fallen(loose), tuple)
            for value in (loose.under_way, loose.says, loose.log, loose.taken(0), loose.used(0), loose.lots(0)):
                self.assertIsInstance(value, tuple)


class Questions(Case):
    def test_falls(self):
        self.refuses_each(BadHouse, falls, BAD_HOUSES, [HOUSE, "claims"], 0)
        self.refuses_each(BadLayer, falls, BAD_LAYERS, [HOUSE, "claims"], 1)
        self.refuses_in_sequence(falls, [HOUSE, "claims"], [(0, (3, 1), BadHouse, (3, 1)), (1, None, BadLayer, None)])

    def test_fall(self):
        for call, good in ((fall, ASKED), (shows_fall, ASKED + [None])):
            self.refuses_each(NoProgram, call, NO_PROGRAMS, good, 0)
            self.refuses_each(BadHouse, call, BAD_HOUSES, good, 1)
            self.refuses_each(BadLayer, call, BAD_LAYERS, good, 2)
            self.refuses_each(BadSentence, call, BAD_SENTENCES, good, 3)
            self.refuses_in_sequence(call, good, [
                (0, HALVES, NoProgram, HALVES), (1, [4, 1], BadHouse, [4, 1]), (2, True, BadLayer, True),
                (3, "own", BadSentence, "own"),
            ])
            self.refuses(BadSentence, None, call, *good[:3], None, *good[4:])
            for sentence in ("all", "on", "one", "run"):
                call(*good[:3], sentence, *good[4:])

    def test_answers(self):
        inputs, liars, deeds = TOLD
        self.assertIs(shows_fall(*ASKED, TOLD), True)
        for value in odd_values() + [
            (inputs, liars), (inputs, liars, deeds, 0), [inputs, liars, deeds], (list(inputs), liars, deeds),
            (inputs, [3], deeds), (inputs, liars, list(deeds)), (inputs, liars, deeds[:-1]), (inputs, liars, ()),
            (inputs, liars, (("rest",),)), (inputs, (), deeds), (None, liars, deeds), (inputs, liars, None),
            (deeds, liars, inputs), (inputs, liars, deeds + (("rest", 1),)), (inputs, liars, deeds + (["rest"],)),
            (inputs, liars, deeds + (("deliver", 0),)), (inputs, liars, deeds + (("deliver", True),)),
            (inputs, liars, deeds + (None,)), (inputs, liars, deeds + (("wait",),)), (inputs, liars, deeds + ("rest",)),
            (inputs, liars, (("lie", 0, 1, SLIP),) + deeds), (inputs, liars, deeds + (("lie", 3, 1, "echo", LETTER),)),
            (inputs, liars, deeds + (("lie", 3, 1, SLIP),)),
        ]:
            self.assertIs(shows_fall(*ASKED, value), False, value)
        for value in ((inputs, liars, deeds + (("rest",), ("rest",))),
                      (inputs, liars, deeds + (("lie", 3, 1, SLIP), ("rest",)))):
            self.assertIs(shows_fall(*ASKED, value), True)

    def test_delivered_one_by_one(self):
        inputs, liars, deeds = TOLD
        loose = Loose(PROGRAM, HOUSE, inputs, liars, "promises")
        for deed in deeds:
            if deed[0] == "lie":
                loose.lie(*deed[1:])
            elif deed[0] == "deliver":
                loose.deliver(deed[1])
        loose.rest()
        self.assertIs(shows_fall(*ASKED, (inputs, liars, loose.log)), True)
        self.assertIs(shows_fall(*ASKED, (inputs, liars, loose.log[:-1])), False)
        self.assertIs(shows_fall(PROGRAM, HOUSE, "claims", "all", (inputs, liars, deeds)), False)
        self.assertIs(shows_fall(PROGRAM, HOUSE, "promises", "run", (inputs, liars, deeds)), False)
        self.assertIs(shows_fall(PROGRAM, HOUSE, "promises", "run", None), True)

    def test_one_round(self):
        one = Program("inputs 0 9\ncells x\nround x\nput x greatest\nsay x")
        for layer in ("promises", "echoes"):
            self.assertIsNone(fall(one, HOUSE, layer, "on"))
            self.assertIs(shows_fall(one, HOUSE, layer, "on", None), True)
            self.assertIs(shows_fall(PROGRAM, HOUSE, layer, "on", None), False)


if __name__ == "__main__":
    unittest.main()
