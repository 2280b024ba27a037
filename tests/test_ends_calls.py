"""What the functions of ends.py refuse, in which sequence, and which answers are wrong (sections 2 and 11)."""

import unittest

from liarslate.ends import (
    brought, claimed, ends, for_all, net_break, shows_brought, shows_claimed, shows_for_all, shows_net_break, spans,
)
from liarslate.errors import (
    BadCalm, BadClaim, BadHouse, BadInputs, BadMost, BadStopLot, NoBreak, NoProgram, Wide,
)
from liarslate.nets import replayed
from liarslate.texts import Program
from tests.helpers import Case, odd_values
from tests.test_texts_calls import BAD_HOUSES

PROGRAM = Program("inputs 0 1\ncells x\nround x\nput x most\nsay x")
HOUSE = (4, 1)
INPUTS = (0, 1, 1, None)
CLAIM = ("alike",)
CALM = ((0, ((0, 1, 3),)), (1, ((0, 1, 2),)), (1, ((0, 1, 2),)), (0, ()))
LOG = brought(PROGRAM, HOUSE, (3,), CALM)
ASKED = [PROGRAM, HOUSE, (3,), INPUTS, 54]
CLAIMED = [PROGRAM, HOUSE, (3,), INPUTS, CLAIM, 54]
ALL = [PROGRAM, HOUSE, CLAIM, 1728]
LED = [PROGRAM, HOUSE, (3,), CALM]
EVERY = (
    (ends, ASKED), (spans, ASKED), (claimed, CLAIMED), (shows_claimed, CLAIMED + [None]), (for_all, ALL),
    (shows_for_all, ALL + [None]), (brought, LED), (shows_brought, LED + [None]), (net_break, ALL),
    (shows_net_break, ALL + [None]),
)
WITH_LOT = EVERY[:4] + EVERY[6:8]
WITH_INPUTS = EVERY[:4]
WITH_CLAIM = ((claimed, CLAIMED, 4), (shows_claimed, CLAIMED + [None], 4)) + tuple(
    (call, good, 2) for call, good in (EVERY[4], EVERY[5], EVERY[8], EVERY[9])
)
BAD_CLAIMS = odd_values() + [
    5, "alike", ["alike"], ("Alike",), ("alike", 0), ("alike", None), ("near",), ("near", -1), ("near", True),
    ("near", None), ("near", "1"), ("near", (1,)), ("near", 1, 2), ["near", 1], ("between", 0), ("between", 0, 1),
    ("among", 1), ("within",), ("within", 1), ("within", 2, 1), ("within", True, 2), ("within", 0, True),
    ("within", None, 1), ("within", 0, None), ("within", 0, "1"), ("within", (0, 1)), ("within", 0, 1, 2),
    ("holds",), (b"alike",), (("alike",),), (None,), (1, "near"), ("", ),
]
GOOD_CLAIMS = [
    ("alike",), ("near", 0), ("near", 99999), ("between",), ("among",), ("within", 0, 0), ("within", -5, 7),
]
BAD_MOSTS = odd_values() + [0, -1, 200001, 999999]


class Refusals(Case):
    def test_programs_and_houses(self):
        wrong = [value for value in odd_values() if not isinstance(value, Program)] + [0, PROGRAM.text, (PROGRAM,)]
        for call, good in EVERY:
            self.refuses_each(NoProgram, call, wrong, good, 0)
            self.refuses_each(BadHouse, call, BAD_HOUSES, good, 1)

    def test_lots(self):
        wrong = [value for value in odd_values() if value not in ((), (0,))] + [
            3, [3], (4,), (-1,), (2, 3), (3, 2), (3, 3), (True,), (False,), (None,), ("3",), ((3,),), {3: 3},
        ]
        for call, good in WITH_LOT:
            self.refuses_each(BadStopLot, call, wrong, good, 2)
        self.assertEqual(ends(PROGRAM, (1, 0), (), (1,), 1), ((1,),))
        self.refuses(BadStopLot, (0,), ends, PROGRAM, (1, 0), (0,), (None,), 1)
        lone = Program("inputs 0 0\ncells x\nround x\nsay x")
        for lot in ((), (0,), (6,), (0, 6)):
            inputs = tuple(None if hand in lot else 0 for hand in range(7))
            self.refuses(Wide, 200000, ends, lone, (7, 2), lot, inputs, 200000)
        for lot in ((0, 1, 2), (6, 7), (6, 0), [0, 6]):
            self.refuses(BadStopLot, lot, ends, lone, (7, 2), lot, (0,) * 7, 200000)

    def test_inputs(self):
        wrong = odd_values() + [
            5, [0, 1, 1, None], (0, 1, 1), (0, 1, 1, None, None), (0, 1, 1, 1), (None, 1, 1, None), (0, 1, None, 1),
            (0, 2, 1, None), (0, -1, 1, None), (0, True, 1, None), (False, 1, 1, None), (0, "1", 1, None),
            (0, (1,), 1, None), (0, 1, 1, False), {0: 0, 1: 1, 2: 1, 3: None},
        ]
        for call, good in WITH_INPUTS:
            self.refuses_each(BadInputs, call, wrong, good, 3)
        self.refuses(BadInputs, INPUTS, ends, PROGRAM, HOUSE, (), INPUTS, 54)

    def test_claims(self):
        for call, good, at in WITH_CLAIM:
            self.refuses_each(BadClaim, call, BAD_CLAIMS, good, at)
        for claim in GOOD_CLAIMS:
            self.assertIn(claimed(PROGRAM, HOUSE, (3,), INPUTS, claim, 54)[0], ("holds", "breaks"))
            self.assertIn(for_all(PROGRAM, HOUSE, claim, 1728)[0], ("holds", "breaks"))

    def test_mosts(self):
        for call, good in EVERY[:6] + EVERY[8:]:
            at = 4 if good[:5] == ASKED else 5 if len(good) > 5 else 3
            self.refuses_each(BadMost, call, BAD_MOSTS, good, at)
            call(*good[:at], 200000, *good[at + 1:])
        lone = Program("inputs 0 0\ncells x\nround x\nsay x")
        self.assertEqual(ends(lone, (1, 0), (), (0,), 1), ((0,),))
        self.assertEqual(for_all(lone, (1, 0), CLAIM, 1), ("holds",))

    def test_too_wide(self):
        for call, good in ((ends, ASKED), (spans, ASKED), (claimed, CLAIMED), (shows_claimed, CLAIMED + [None])):
            at = good.index(54)
            for most in (1, 53):
                self.refuses(Wide, most, call, *good[:at], most, *good[at + 1:])
            call(*good)
        for call, good in ((for_all, ALL), (shows_for_all, ALL + [None]), (net_break, ALL),
                           (shows_net_break, ALL + [None])):
            for most in (1, 1727):
                self.refuses(Wide, most, call, *good[:3], most, *good[4:])
            call(*good)

    def test_calms(self):
        whole = ((0, ((0, 1, 3),)), (1, ((0, 1, 2),)), (1, ((0, 1, 2),)))
        wrong = odd_values() + [
            5, list(CALM), CALM[:3], CALM + (None,), whole + (None,), (None,) + CALM[1:], ((0, ()),) + CALM[1:],
            ((2, ((0, 1, 3),)),) + CALM[1:], ((False, ((0, 1, 3),)),) + CALM[1:], ((0, [(0, 1, 3)]),) + CALM[1:],
            ((0, ((1, 2, 3),)),) + CALM[1:], ((0, ((0, 1, 3), (0, 1, 3))),) + CALM[1:], whole[:2] + ((1, ()), (0, ())),
        ]
        for call, good in ((brought, LED), (shows_brought, LED + [None])):
            self.refuses_each(BadCalm, call, wrong, good, 3)
            self.refuses(BadCalm, CALM, call, PROGRAM, HOUSE, (), CALM, *good[4:])
            self.refuses(BadCalm, CALM, call, PROGRAM, HOUSE, (0,), CALM, *good[4:])
        quiet = ((0, ((0, 1, 2),)),) + whole[1:] + (None,)
        for lot in ((), (0,)):
            self.refuses(BadCalm, quiet, brought, PROGRAM, HOUSE, lot, quiet)
        brought(PROGRAM, HOUSE, (3,), quiet)
        for last in ((0, ()), (1, ()), (0, ((0, 1, 3),)), (1, ((1, 2, 3),))):
            brought(PROGRAM, HOUSE, (3,), whole + (last,))
        full = whole + ((1, ((0, 2, 3),)),)
        for lot in ((), (0,), (1,), (3,)):
            brought(PROGRAM, HOUSE, lot, full)

    def test_sequence(self):
        first = [(0, None, NoProgram, None), (1, (3, 1), BadHouse, (3, 1))]
        asked = first + [(2, (4,), BadStopLot, (4,)), (3, (0, 1, 1), BadInputs, (0, 1, 1))]
        for call in (ends, spans):
            self.refuses_in_sequence(call, ASKED, asked + [(4, 0, BadMost, 0)])
            self.refuses_in_sequence(call, ASKED, asked + [(4, 53, Wide, 53)])
        for most, kind in ((True, BadMost), (1, Wide)):
            wrongs = asked + [(4, ("near",), BadClaim, ("near",)), (5, most, kind, most)]
            self.refuses_in_sequence(claimed, CLAIMED, wrongs)
            self.refuses_in_sequence(shows_claimed, CLAIMED + [[]], wrongs)
            wrongs = first + [(2, ("near",), BadClaim, ("near",)), (3, most, kind, most)]
            for call, good in (EVERY[4], EVERY[5], EVERY[8], EVERY[9]):
                self.refuses_in_sequence(call, good, wrongs)
        wrongs = first + [(2, [3], BadStopLot, [3]), (3, CALM[:3], BadCalm, CALM[:3])]
        self.refuses_in_sequence(brought, LED, wrongs)
        self.refuses_in_sequence(shows_brought, LED + [LOG], wrongs)

    def test_no_break(self):
        for call, good in ((net_break, ALL), (shows_net_break, ALL + [None]), (shows_net_break, ALL + [()])):
            self.refuses(NoBreak, None, call, *good[:2], ("among",), *good[3:])
        self.refuses(Wide, 5, net_break, *ALL[:2], ("among",), 5)

    def test_by_name(self):
        named = {"program": PROGRAM, "house": HOUSE, "lot": (3,), "inputs": INPUTS, "most": 54}
        rows = ends(**named)
        self.assertEqual((rows, spans(**named)), (ends(*ASKED), spans(*ASKED)))
        told = claimed(claim=CLAIM, **named)
        self.assertEqual(told, claimed(*CLAIMED))
        self.assertIs(shows_claimed(value=told, claim=CLAIM, **named), True)
        everywhere = {"most": 1728, "claim": CLAIM, "house": HOUSE, "program": PROGRAM}
        found = for_all(**everywhere)
        self.assertIs(shows_for_all(value=found, **everywhere), True)
        log = brought(calm=CALM, lot=(3,), house=HOUSE, program=PROGRAM)
        self.assertIs(shows_brought(value=log, calm=CALM, lot=(3,), house=HOUSE, program=PROGRAM), True)
        self.assertIs(shows_net_break(value=net_break(**everywhere), **everywhere), True)


class Answers(Case):
    def wrong(self, call, good, values):
        for value in values:
            self.assertIs(call(*good, value), False, value)

    def test_claimed(self):
        rows = len(ends(*ASKED))
        holding = CLAIMED[:4] + [("among",), 54]
        self.assertEqual(claimed(*holding), ("holds", rows))
        self.assertIs(shows_claimed(*holding, ("holds", rows)), True)
        self.wrong(shows_claimed, holding, odd_values() + [
            rows, ("holds",), ("holds", rows + 1), ("holds", rows - 1), ("holds", True), ("holds", None),
            ["holds", rows], ("holds", rows, 0), ("breaks", rows), ("breaks", CALM), ("Holds", rows), (rows, "holds"),
        ])
        self.assertIs(shows_claimed(*CLAIMED, ("breaks", CALM)), True)
        self.wrong(shows_claimed, CLAIMED, odd_values() + [
            ("holds", rows), ("breaks",), ("breaks", None), ("breaks", CALM, 0), ["breaks", CALM], ("holds", CALM),
            ("breaks", list(CALM)), ("breaks", CALM[:3]), ("breaks", CALM + (None,)),
            ("breaks", ((0, ((0, 1, 2),)),) + CALM[1:]), ("breaks", ((1, ((0, 1, 3),)),) + CALM[1:]),
            ("breaks", ((False, ((0, 1, 3),)),) + CALM[1:]), ("breaks", CALM[:3] + (None,)),
            ("breaks", ((0, ()),) + CALM[1:]), (CALM, "breaks"), CALM,
        ])

    def test_of_other_inputs(self):
        """A CALM that breaks the claim, too, but with other inputs."""
        other = ((1, ((0, 1, 2),)), (0, ((0, 1, 3),)), (1, ((0, 1, 2),)), (0, ()))
        self.assertIs(shows_claimed(*CLAIMED, ("breaks", other)), False)
        self.assertIs(shows_claimed(*CLAIMED[:3], (1, 0, 1, None), *CLAIMED[4:], ("breaks", other)), True)
        self.assertIs(shows_for_all(*ALL, ("breaks", (3,), other)), True)

    def test_one_row(self):
        """True is not 1."""
        good = [PROGRAM, (1, 0), (), (1,), CLAIM, 1]
        self.assertEqual(claimed(*good), ("holds", 1))
        self.assertIs(shows_claimed(*good, ("holds", True)), False)

    def test_lots_may_do_what_they_like(self):
        for last in ((0, ()), (0, ((0, 1, 3),)), (0, ((1, 2, 3),))):
            self.assertIs(shows_claimed(*CLAIMED, ("breaks", CALM[:3] + (last,))), True)
        self.assertIs(shows_claimed(*CLAIMED, ("breaks", CALM[:3] + ((1, ()),))), False)

    def test_for_all(self):
        self.assertIs(shows_for_all(*ALL, ("breaks", (3,), CALM)), True)
        self.wrong(shows_for_all, ALL, odd_values() + [
            ("holds",), ("holds", 1), ("breaks",), ("breaks", CALM), ("breaks", (3,), CALM, 0), ("breaks", (), CALM),
            ["breaks", (3,), CALM], ("breaks", [3], CALM), ("breaks", (2,), CALM), ("breaks", (True,), CALM),
            ("breaks", (4,), CALM), ("breaks", (3,), None), ("breaks", (3,), list(CALM)), ("breaks", (2, 3), CALM),
            ("breaks", (3,), ((0, ((0, 1, 2),)),) + CALM[1:]), ("holds", (3,), CALM), ("breaks", 3, CALM),
        ])
        holding = ALL[:2] + [("among",), 1728]
        self.assertIs(shows_for_all(*holding, ("holds",)), True)
        self.wrong(shows_for_all, holding, [("breaks", (3,), CALM), ["holds"], "holds", ("holds", 1), ("Holds",)])

    def test_for_all_wants_lots_of_t_hands(self):
        whole = CALM[:3] + ((0, ((0, 1, 3),)),)
        self.assertIs(shows_for_all(*ALL, ("breaks", (3,), whole)), True)
        self.assertIs(shows_for_all(*ALL, ("breaks", (), whole)), False)

    def test_brought(self):
        self.assertIs(shows_brought(*LED, LOG), True)
        last = LOG[-1]
        self.wrong(shows_brought, LED, odd_values() + [
            (), LOG[:-1] + (last, last), list(LOG), LOG[1:], LOG + (("rest",),), LOG + (("deliver", True),),
            LOG + (("lie", 0, 1, ("said", (0, 1, 0, 0))),), LOG[:20], LOG[::-1],
        ])

    def test_brought_to_other_lots(self):
        other = ((0, ((0, 1, 2),)),) + CALM[1:]
        self.assertIs(shows_brought(PROGRAM, HOUSE, (3,), other, LOG), False)
        self.assertIs(shows_brought(PROGRAM, HOUSE, (3,), CALM[:3] + ((1, ()),), LOG), False)

    def test_brought_with_more_letters(self):
        """A letter that calm has not may be told, but not used."""
        quiet = ((0, ((0, 1, 2),)), (1, ((0, 1, 2),)), (1, ((0, 1, 2),)), None)
        log = brought(PROGRAM, HOUSE, (3,), quiet)
        told = log + tuple(("lie", 3, hand, ("said", (3, 1, 0, 0))) for hand in (0, 1, 2))
        self.assertIs(shows_brought(PROGRAM, HOUSE, (3,), quiet, told), True)
        numbers = []
        net = replayed(PROGRAM, HOUSE, (0, 1, 1, None), (3,), told)
        while net.under_way:
            numbers.append(net.under_way[0][0])
            net.deliver(numbers[-1])
        self.assertIs(shows_brought(PROGRAM, HOUSE, (3,), quiet, net.log), False)
        self.assertIs(shows_brought(PROGRAM, HOUSE, (3,), CALM[:3] + ((0, ()),), net.log), False)

    def test_net_break(self):
        inputs, liars, log = net_break(*ALL)
        self.assertIs(shows_net_break(*ALL, (INPUTS, (3,), LOG)), True)
        self.wrong(shows_net_break, ALL, odd_values() + [
            (inputs, liars), (inputs, liars, log, 0), [inputs, liars, log], (list(inputs), liars, log),
            (inputs, [3], log), (inputs, liars, list(log)), (inputs, liars, log[:-20]), (inputs, liars, ()),
            (inputs, (), log), (None, liars, log), (inputs, liars, None), (inputs, liars, log + (("rest",),)),
            (log, liars, inputs), ((1, 1, 1, None), (3,), log),
        ])

    def test_net_break_by_another_claim(self):
        self.assertIs(shows_net_break(*ALL[:2], ("within", 1, 1), 1728, (INPUTS, (3,), LOG)), True)
        for claim in (("within", 0, 0), ("near", 0)):
            self.assertIs(shows_net_break(*ALL[:2], claim, 1728, (INPUTS, (3,), LOG)), True)


if __name__ == "__main__":
    unittest.main()
