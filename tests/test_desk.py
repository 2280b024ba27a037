"""The desk: each line of the table, lines of no form, and lines that the bench refuses (section 16)."""

import unittest

from liarslate.desk import Desk
from liarslate.ends import ends
from liarslate.errors import (
    BadHand, BadInputs, BadJournal, BadLiar, BadLiars, BadProgram, BadSlip, BadTask, NoSlip, NothingToRedo,
    NothingToUndo, Wide,
)
from liarslate.journals import journal, read_journal
from liarslate.nets import Net
from liarslate.texts import Program
from liarslate.told import told_all
from liarslate.waiting import waits
from tests.bench_helpers import bench_state, led_bench, random_deed, text_of_deed, undone_of
from tests.helpers import Case, chances, odd_values
from tests.net_helpers import honest_of

TOP = "inputs 0 9\ncells x\nround x\nput x greatest\nsay x"
HEADS = TOP + "\nhouse 4 1\ninputs 1 2 3 -\nliars 3\ndeeds"
ADD = "inputs 0 9\ncells x\nround x\nput x sum\nround x\nput x greatest\nsay x"
TWO = ADD + "\nhouse 4 1\ninputs 1 2 3 -\nliars 3\ndeeds"


def word(value):
    return "-" if value is None else str(value)


def text_of_letter(letter):
    """Told anew."""
    return text_of_deed(("lie", 0, 0, ("said", letter)))[len("lie 0 0 said "):]


def text_of_entry(entry):
    if entry is None:
        return "-"
    return " ".join([str(entry[0])] + [" ".join([":"] + [str(hand) for hand in lot]) for lot in entry[1]])


class Answers(Case):
    def agrees(self, desk):
        """All lines that change nothing, told anew."""
        bench = desk.bench
        net, before = bench.net_now(), (bench_state(bench), undone_of(bench))
        self.assertEqual(desk.say("says"), " ".join(word(value) for value in net.says))
        numbers = [str(slip[0]) for slip in net.under_way]
        self.assertEqual(desk.say("under"), " ".join(numbers) or "none")
        self.assertEqual(desk.say("steps"), str(len(net)))
        self.assertEqual(desk.say("told"), " ; ".join(text_of_entry(entry) for entry in told_all(net)))
        self.assertEqual(desk.say("ends"), self.told_ends(bench))
        for hand in range(-1, net.house[0] + 1):
            if hand not in honest_of(net):
                self.refuses(BadHand, hand, desk.say, "used %d" % hand)
                self.refuses(BadHand, hand, desk.say, "waits %d" % hand)
                continue
            used = " ; ".join(text_of_letter(letter) for letter in net.used(hand))
            self.assertEqual(desk.say("used %d" % hand), used or "none")
            rows = " ; ".join("%d %s" % (other, found[0]) for other, found in waits(net, hand))
            self.assertEqual(desk.say("waits %d" % hand), rows or "none")
        self.assertEqual((bench_state(bench), undone_of(bench)), before)

    def told_ends(self, bench):
        try:
            rows = ends(bench.program, bench.house, bench.liars, bench.inputs, 2000)
        except Wide:
            return "wide"
        return " ; ".join(" ".join(word(value) for value in row) for row in rows)

    def test_at_many_moments(self):
        for chance in chances(200, 12):
            bench = led_bench(chance, rounds=chance.randint(1, 2))
            desk = Desk(journal(bench))
            self.assertTrue(desk.bench == bench)
            for _ in range(5):
                self.agrees(desk)
                deed = random_deed(chance, desk.bench)
                net = desk.bench.net_now()
                wanted = str(net.sent) if deed[0] == "lie" else str(net.rest()) if deed[0] == "rest" else "done"
                self.assertEqual(desk.say(text_of_deed(deed)), wanted)

    def test_at_rest(self):
        desk = Desk(TWO)
        told = [desk.say(line) for line in ("under", "steps", "used 0", "waits 0", "told", "says")]
        self.assertEqual(told, [" ".join(str(number) for number in range(12)), "0", "none",
                                "0 echoed ; 1 nothing ; 2 nothing ; 3 nothing", "1 ; 2 ; 3 ; -", "- - - -"])
        self.assertEqual(desk.say("rest"), "84")
        told = [desk.say(line) for line in ("under", "steps", "waits 2", "told", "says", "rest")]
        self.assertEqual(told, ["none", "84", "none", "1 : 0 1 2 : 0 1 2 ; 2 : 0 1 2 : 0 1 2 ; 3 : 0 1 2 : 0 1 2 ; -",
                                "6 6 6 -", "0"])
        second = desk.say("used 2").split(" ; ")[3:]
        self.assertEqual(sorted(second), ["0 2 6 lot 0 1 2", "1 2 6 lot 0 1 2", "2 2 6 lot 0 1 2"])

    def test_ends_and_their_bound(self):
        self.assertEqual(Desk(TWO).say("ends"), "wide")
        # Breadths of 270, 2187 and 567.
        desk = Desk(HEADS)
        rows = ends(Program(TOP), (4, 1), (3,), (1, 2, 3, None), 2000)
        self.assertEqual(desk.say("ends").split(" ; "), [" ".join(word(value) for value in row) for row in rows])
        lone = "inputs 0 0\ncells x\nround x\nput x most\nround x\nsay x\nhouse 4 1\ninputs 0 0 0 -\nliars 3\ndeeds"
        self.assertEqual(Desk(lone).say("ends"), "wide")
        less = lone.replace("round x\nsay", "say").replace("inputs 0 0\n", "inputs 0 20\n", 1)
        self.assertNotEqual(Desk(less).say("ends"), "wide")
        for greatest, wide in ((6, False), (7, True)):
            # Breadths of 4 ** 4 * 7 and 4 ** 4 * 8.
            heads = HEADS.replace("0 9", "0 %d" % greatest).replace("4 1", "5 1").replace("1 2 3 -", "1 2 3 - 1")
            self.assertEqual(Desk(heads).say("ends") == "wide", wide)
        self.assertEqual(Desk(HEADS.replace("4 1", "1 0").replace("1 2 3 -", "7").replace("s 3", "s")).say("ends"), "7")

    def test_deeds(self):
        desk = Desk(HEADS)
        told = [desk.say(line) for line in (
            "deliver 0", "lie 3 0 said 3 1 9 input 9", "lie 3 0 echo 3 1 9 lot 0 3", "rest", "undo", "undo", "redo",
            "fresh - 1 1 1 liars 0", "rewrite inputs 0 1 / cells y / round y / say y", "undo", "redo", "rest",
        )]
        self.assertEqual(told, ["done", "14", "15", "45", "done", "done", "done", "done", "done", "done", "done", "42"])
        self.assertEqual(desk.bench.deeds, 6)
        self.assertEqual(desk.bench.program.text, "inputs 0 1\ncells y\nround y\nsay y")

    def test_its_bench_is_the_very_one(self):
        desk = Desk(text=HEADS)
        bench = desk.bench
        self.assertEqual(desk.say(line="rest"), "42")
        self.assertEqual((bench.deeds, bench.net_now().says), (1, (3, 3, 3, None)))
        bench.undo()
        self.assertIs(desk.bench, bench)
        self.assertEqual(desk.say("steps"), "0")
        self.assertTrue(read_journal(journal(bench)) == bench)
        self.assertTrue(bench.net_now() == Net(Program(TOP), (4, 1), (1, 2, 3, None), (3,)))


class Refusals(Case):
    def setUp(self):
        self.desk = Desk(HEADS + "\ndeliver 0\nlie 3 0 said 3 1 9 input 9")
        self.desk.say("undo")
        self.before = (bench_state(self.desk.bench), undone_of(self.desk.bench))

    def tearDown(self):
        """A line that is refused changes nothing."""
        self.assertEqual((bench_state(self.desk.bench), undone_of(self.desk.bench)), self.before)

    def test_journals(self):
        for value in odd_values():
            if not isinstance(value, str):
                self.refuses(BadJournal, 0, Desk, value)
        self.refuses(BadJournal, 2, Desk, "")
        self.refuses(BadJournal, 10, Desk, HEADS + "\nwait")
        self.refuses(BadJournal, 3, Desk, HEADS.replace("round x", "round y"))

    def test_no_strings(self):
        for value in odd_values() + [5, ["rest"], ("rest",), b"rest"]:
            self.refuses(BadTask, value, self.desk.say, value)

    def test_no_forms(self):
        for line in (
            "", " ", "rest ", " rest", "Rest", "rest 1", "undo 1", "undo ", "redo 0", "says 0", "says ", "under 1",
            "steps 1", "told 0", "ends 2000", "used", "used ", "used x", "used 0 1", "used 00", "used +1", "used  0",
            "used -", "waits", "waits 0 1", "waits x", "waits 0 ", "deliver", "deliver x", "deliver 0 1", "deliver -",
            "deliver 01", "lie 3 0 said 3 1 9", "lie 3 0 said 3 1", "lie 3 0 said", "lie 3 0", "lie 3", "lie",
            "lie 3 0 said 3 1 9 9", "lie 3 0 said 3 1 9 input", "lie 3 0 said 3 1 9 input 9 9",
            "lie 3 0 said 3 1 9 lot x", "lie 3 0  3 1 9 input 9", "lie 3 0 3 1 9 input 9",
            "lie 3 0 said 3 1 x input 9", "fresh", "fresh 1 2 3 -", "fresh 1 2 3 x liars", "fresh 1 2 3 - liars -",
            "fresh 1 2 3 4 liars 1 liars 2", "rewrite", "deeds", "house 4 1", "inputs 1 2 3 -", "liars 3", "none",
            "done", "wide", "copy", "keep", "block", "rest\n", "rest\nrest", "\nrest",
            "rewrite inputs 0 9\ncells x\nround x\nsay x", "used\n0", "says\n", "deliver 0\n", "\n",
        ):
            self.refuses(BadTask, line, self.desk.say, line)

    def test_what_the_bench_refuses(self):
        say = self.desk.say
        for line, kind, value in (
            ("deliver 0", NoSlip, 0), ("deliver 99", NoSlip, 99), ("deliver -1", NoSlip, -1),
            ("lie 0 0 said 3 1 9 input 9", BadLiar, 0), ("lie -3 0 said 3 1 9 input 9", BadLiar, -3),
            ("lie 3 3 said 3 1 9 input 9", BadHand, 3), ("lie 3 7 said 3 1 9 input 9", BadHand, 7),
            ("lie 3 0 shown 3 1 9 input 9", BadSlip, ("shown", (3, 1, 9, 9))),
            ("lie 3 0 9 3 1 9 input 9", BadSlip, ("9", (3, 1, 9, 9))),
            ("lie 3 0 said 4 1 9 input 9", BadSlip, ("said", (4, 1, 9, 9))),
            ("lie 3 0 said 3 2 9 input 9", BadSlip, ("said", (3, 2, 9, 9))),
            ("lie 3 0 said 3 1 9 lot 1 0", BadSlip, ("said", (3, 1, 9, (1, 0)))),
            ("lie 3 0 said 3 1 10000 lot", BadSlip, ("said", (3, 1, 10000, ()))),
            ("fresh 1 2 3 - liars 4", BadLiars, (4,)), ("fresh 1 2 3 - liars 2 3", BadLiars, (2, 3)),
            ("fresh 1 2 3 - liars", BadInputs, (1, 2, 3, None)), ("fresh liars", BadInputs, ()),
            ("fresh 1 2 3 10 liars", BadInputs, (1, 2, 3, 10)), ("fresh - 2 liars 9", BadLiars, (9,)),
            ("rewrite ", BadProgram, 1), ("rewrite x", BadProgram, 1), ("rewrite inputs 0 9 / cells x", BadProgram, 3),
            ("rewrite  inputs 0 9 / cells x / round x / say x", BadProgram, 1),
            ("rewrite inputs 0 9 / cells x / round x / say x ", BadProgram, 4),
            ("rewrite inputs 0 9 / cells x / round x / say x / say x", BadProgram, 5),
            ("rewrite inputs 2 9 / cells x / round x / say x", BadInputs, (1, 2, 3, None)),
            ("used 3", BadHand, 3), ("used 4", BadHand, 4), ("used -1", BadHand, -1), ("waits 3", BadHand, 3),
            ("waits 9", BadHand, 9), ("waits -1", BadHand, -1),
        ):
            self.refuses(kind, value, say, line)

    def test_nothing_to_take_back(self):
        desk = Desk(HEADS)
        self.refuses(NothingToUndo, None, desk.say, "undo")
        self.refuses(NothingToRedo, None, desk.say, "redo")


if __name__ == "__main__":
    unittest.main()
