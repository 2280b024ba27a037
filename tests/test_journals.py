"""Journals: told, read back, and bent (section 16)."""

import unittest

from liarslate.benches import Bench
from liarslate.errors import BadJournal
from liarslate.journals import journal, read_journal
from liarslate.texts import Program
from tests.bench_helpers import bench_state, do, led_bench, Model, random_deed, random_start, text_of
from tests.helpers import Case, chances, HALVES, odd_values

TOP = "inputs 0 9\ncells x\nround x\nput x greatest\nsay x"
HEADS = TOP + "\nhouse 4 1\ninputs 1 2 3 -\nliars 3\ndeeds"
DEEDS = [
    "deliver 0", "lie 3 0 said 3 1 9 input 9", "lie 3 1 echo 3 1 -5 lot", "lie 3 1 promise 0 1 0 lot 0 1 3", "rest",
    "fresh 1 - 3 4 liars 1", "deliver 3", "fresh 5 6 7 8 liars", "rest",
    "rewrite inputs -2 9 / cells y z / round turn y / put y least / round z / say y", "deliver 2", "rest",
]
TEXT = "\n".join([HEADS] + DEEDS)


class Told(Case):
    def test_of_all_kinds_of_deeds(self):
        bench = Bench(TOP, (4, 1), (1, 2, 3, None), (3,))
        self.assertEqual(journal(bench), HEADS)
        bench.deliver(0)
        bench.lie(3, 0, ("said", (3, 1, 9, 9)))
        bench.lie(3, 1, ("echo", (3, 1, -5, ())))
        bench.lie(3, 1, ("promise", (0, 1, 0, (0, 1, 3))))
        bench.rest()
        bench.fresh((1, None, 3, 4), (1,))
        bench.deliver(3)
        bench.fresh((5, 6, 7, 8), ())
        bench.rest()
        bench.rewrite("inputs -2 9\ncells y z\nround turn y\nput y least\nround z\nsay y")
        bench.deliver(2)
        bench.rest()
        self.assertEqual(journal(bench), TEXT)
        twin = read_journal(TEXT)
        self.assertTrue(twin == bench)
        self.assertEqual(bench_state(twin), bench_state(bench))
        bench.undo()
        self.assertEqual(journal(bench=bench), "\n".join([HEADS] + DEEDS[:-1]))
        self.assertTrue(read_journal(text=journal(bench)) == bench)

    def test_heads(self):
        for start, told in (
            ((TOP, (1, 0), (0,), ()), "house 1 0\ninputs 0\nliars\ndeeds"),
            ((TOP, (7, 2), (None, 1, 2, 3, 4, 5, None), (0, 6)), "house 7 2\ninputs - 1 2 3 4 5 -\nliars 0 6\ndeeds"),
            ((TOP, (4, 1), (0, 1, 2, 3), ()), "house 4 1\ninputs 0 1 2 3\nliars\ndeeds"),
        ):
            self.assertEqual(journal(Bench(*start)), TOP + "\n" + told)
            self.assertTrue(read_journal(TOP + "\n" + told) == Bench(*start))
        turned = "inputs -5 -3\ncells x\nround x\nsay x"
        self.assertEqual(journal(Bench(turned, (2, 0), (-5, -3), ())).split("\n")[4:6], ["house 2 0", "inputs -5 -3"])

    def test_the_heads_stay_as_it_was_made(self):
        bench = Bench(TOP, (4, 1), (1, 2, 3, None), (3,))
        bench.rewrite(HALVES)
        bench.fresh((None, 1, 1, 1), (0,))
        self.assertEqual(journal(bench).split("\n")[:9], HEADS.split("\n"))

    def test_read_back(self):
        for chance in chances(190, 40):
            bench = led_bench(chance)
            text = journal(bench)
            twin = read_journal(text)
            self.assertTrue(twin == bench)
            self.assertEqual((journal(twin), bench_state(twin)), (text, bench_state(bench)))
            self.assertEqual(twin.deeds, bench.deeds)

    def test_as_a_model_tells_it(self):
        for chance in chances(191, 15):
            start = random_start(chance)
            bench, model = Bench(*start), Model(*start)
            for _ in range(12):
                deed = random_deed(chance, bench)
                do(bench, deed)
                model.do(deed)
            self.assertEqual(journal(bench), text_of(model))

    def test_what_was_taken_back_is_not_told(self):
        bench = read_journal(TEXT)
        for many in range(len(DEEDS) - 1, -1, -1):
            bench.undo()
            self.assertEqual(journal(bench), "\n".join([HEADS] + DEEDS[:many]))
        self.assertTrue(read_journal(journal(bench)) == Bench(TOP, (4, 1), (1, 2, 3, None), (3,)))


class Bent(Case):
    def bad(self, text, number):
        self.refuses(BadJournal, number, read_journal, text)

    def with_line(self, at, line):
        lines = TEXT.split("\n")
        return "\n".join(lines[:at - 1] + [line] + lines[at:])

    def test_no_string(self):
        for value in odd_values() + [5, TEXT.split("\n"), b"deeds", Program(TOP)]:
            if not isinstance(value, str):
                self.bad(value, 0)

    def test_no_line_of_deeds(self):
        for text in (
            "", "0", "said", TOP, HEADS[:-6], HEADS[:-1], HEADS + " ", " deeds", "deeds ", "Deeds", "\n", "\n\n\n",
            HEADS.replace("deeds", "deeds 1"), HEADS.replace("\ndeeds", "deeds"),
        ):
            self.bad(text, len(text.split("\n")) + 1)
        self.bad("", 2)
        self.bad(TEXT.replace("\ndeeds\n", "\ndeed\n"), 22)

    def test_too_few_lines_ahead(self):
        self.bad("deeds", 1)
        self.bad("deeds\ndeeds", 1)
        self.bad("x\ndeeds", 2)
        self.bad("house 4 1\ninputs 1 2 3 -\nliars 3\ndeeds", 4)
        self.bad("\n\n\ndeeds\nnothing", 4)
        self.bad("\n\n\n\ndeeds\nnothing", 1)
        self.bad("inputs 0 9\nhouse 4 1\ninputs 1 2 3 -\nliars 3\ndeeds", 2)

    def test_programs(self):
        for at, line in (
            (1, "inputs 0 10 "), (1, "inputs 0"), (1, "inputs 0 9 9"), (1, "inputs  0 9"), (1, "inputs +0 9"),
            (1, "inputs 9 0"), (2, "cells"), (2, "cells x x"), (3, "round least"), (3, ""), (4, "put y x"),
            (5, "say"), (5, "say x x"), (5, "put x say"), (2, "round x"), (4, "house 4 1"),
        ):
            self.bad(self.with_line(at, line), at)
        self.bad(HEADS.replace("say x\n", ""), 5)
        self.bad(HEADS.replace("say x\n", "say x\nsay x\n"), 6)
        # Whatever is wrong behind it.
        self.bad(self.with_line(3, "round least").replace("house 4 1", "house"), 3)

    def test_forms_of_the_heads(self):
        for line in (
            "house", "house 4", "house 4 1 0", "house 4  1", "house 4 1 ", " house 4 1", "House 4 1", "house 4 x",
            "house +4 1", "house 04 1", "house 4 -0", "house 4,1", "house - 1", "house 4 1.0", "home 4 1", "",
            "inputs 1 2 3 -", "house four 1",
        ):
            self.bad(self.with_line(6, line), 6)
        for line in (
            "inputs 1 2 3 x", "inputs 1 2 3 --", "inputs 1 2  3 -", "inputs 1 2 3 - ", " inputs 1 2 3 -", "input 1",
            "inputs 01 2 3 -", "inputs +1 2 3 -", "inputs -0 2 3 -", "inputs 1 2 3 None", "", "inputs ",
        ):
            self.bad(self.with_line(7, line), 7)
        for line in (
            "liar 3", "liars 3 ", "liars  3", "liars x", "liars -", "liars 03", "liars +3", "", "liars 3,", " liars 3",
            "liars ",
        ):
            self.bad(self.with_line(8, line), 8)

    def test_the_first_form_that_is_wrong(self):
        for house, inputs, liars, number in (
            ("house 4", "inputs x", "liars 3", 6), ("house 4 1 0", "inputs x", "liars 3", 6),
            ("house x", "inputs x", "liars x", 6), ("house 9 9", "inputs x", "liars x", 7),
            ("house 9 9", "inputs", "liars x", 8), ("house 9 9", "inputs", "liars 9", 6),
            ("house 4 1", "inputs", "liars 9", 8), ("house 4 1", "inputs", "liars 3", 7),
            ("house 4 1", "inputs 1 2 3 -", "liars 9", 8), ("house 4 1", "inputs 1 2 3 -", "liars", 7),
            ("house 4 1", "inputs 1 2 3 4", "liars 3", 7), ("house 4 1", "inputs 1 2 3 - -", "liars 3", 7),
            ("house 4 1", "inputs 1 2 - -", "liars 2 3", 8), ("house 4 1", "inputs 1 2 10 -", "liars 3", 7),
            ("house -4 1", "inputs 1 2 3 -", "liars 3", 6), ("house 3 1", "inputs 1 2 -", "liars 2", 6),
            ("house 4 1", "inputs 1 2 3 -", "liars -1", 8), ("house 8 2", "inputs", "liars", 6),
        ):
            lines = TOP.split("\n") + [house, inputs, liars, "deeds", "nothing"]
            self.bad("\n".join(lines), number)

    def test_forms_of_deeds(self):
        lines = TEXT.split("\n")
        for at in range(10, len(lines) + 1):
            line = lines[at - 1]
            bent = [line + " ", " " + line, line + " 0 x", line.upper(), "", "deeds", "undo", "redo", "says", "none"]
            if "rewrite" not in line:
                bent += [line.replace(" ", "  ", 1) if " " in line else line + "  ", line + " x", line + " -"]
                bent += [line[:-1], line.replace(" ", "\t", 1) + "\t"]
                if " " in line and "fresh" not in line and "lot" not in line:
                    bent.append(" ".join(line.split(" ")[:-1]))
            for wrong in bent:
                self.bad(self.with_line(at, wrong), at)

    def test_signs_of_numbers(self):
        for at, line in (
            (10, "deliver +0"), (10, "deliver 00"), (10, "deliver -0"), (10, "deliver 0.0"), (10, "deliver x"),
            (10, "deliver 0 1"), (10, "deliver"), (10, "deliver -"), (10, "deliver 99"), (10, "deliver -1"),
            (11, "lie 3 0 said 3 1 9 input +9"), (11, "lie 3 0 said 3 1 09 input 9"), (11, "lie 3 0 said 3 1 9 input"),
            (11, "lie 3 0 said 3 1 9 input 9 9"), (11, "lie 3 0 said 3 1 9 9"), (11, "lie 3 0 said 3 1 9 claim 9"),
            (11, "lie 3 0 3 1 9 input 9"), (11, "lie 3 said 3 1 9 input 9"), (11, "lie +3 0 said 3 1 9 input 9"),
            (11, "lie 3 0 said 3 1 9 lot 1 0"), (11, "lie 3 0 said 3 1 9 lot 4"), (11, "lie 3 0 said 3 1 9 lot x"),
            (11, "lie 3 0 shown 3 1 9 input 9"), (11, "lie 0 0 said 3 1 9 input 9"), (11, "lie 3 3 said 3 1 9 input 9"),
            (11, "lie 3 0 said 3 2 9 input 9"), (11, "lie 3 0 said 3 1 10000 input 9"),
            (11, "lie 3 0 said 4 1 9 input 9"),
            (11, "lie 3 0 said 3 1 9"), (11, "lie 3 0  3 1 9 input 9"), (11, "lie 3 0 said - 1 9 input 9"),
            (11, "lie"), (11, "lie 3 0 said"),
            (14, "rest 0"), (14, "rests"), (14, "Rest"), (15, "fresh 1 - 3 4"), (15, "fresh"), (15, "fresh liars"),
            (15, "fresh 1 - 3 4 liars 0"), (15, "fresh 1 - 3 liars 1"), (15, "fresh 1 - 3 10 liars 1"),
            (15, "fresh 1 - 3 4 liars -"), (15, "fresh 1 - 3 4 liars 1 liars 1"), (15, "fresh 1 x 3 4 liars 1"),
            (15, "fresh liars 1 inputs 1 - 3 4"), (15, "fresh 1 - 3 4 liars 01"), (15, "fresh +1 - 3 4 liars 1"),
            (19, "rewrite"), (19, "rewrite "), (19, "rewrite x"), (19, "rewrite inputs 0 9"),
            (19, "rewrite inputs 6 9 / cells y / round y / say y"), (19, "rewrite inputs -2 9/cells y/round y/say y"),
            (19, "rewrite  inputs -2 9 / cells y / round y / say y"),
            (19, "rewrite inputs -2 9 / cells y / round y / say y "),
            (19, "rewrite inputs -2 9 /  cells y / round y / say y"),
        ):
            self.bad(self.with_line(at, line), at)

    def test_lines_that_may_stand(self):
        for at, line in (
            (10, "deliver 11"), (10, "rest"), (11, "lie 3 2 promise 0 1 -9999 input -9999"),
            (13, "lie 3 1 echo 2 1 0 lot 2"), (14, "lie 3 1 echo 2 1 0 lot 0 1 2 3"), (15, "fresh 0 0 0 9 liars"),
            (19, "fresh 1 1 1 1 liars"),
            (19, "rewrite inputs 0 8 / cells y / round y / say 7"),
        ):
            bench = read_journal("\n".join(self.with_line(at, line).split("\n")[:at]))
            self.assertEqual(journal(bench).split("\n")[-1], line)

    def test_the_first_wrong_deed_is_told(self):
        lines = TEXT.split("\n")
        for at in range(10, len(lines) + 1):
            self.bad("\n".join(lines[:at - 1] + ["wait", "deeds"] + lines[at - 1:]), at)

    def test_refused_deeds(self):
        self.bad(TEXT + "\ndeliver 0", 22)
        self.bad(HEADS + "\ndeliver 0\ndeliver 0", 11)
        self.bad(HEADS + "\nrest\ndeliver 3", 11)
        self.bad(HEADS + "\n", 10)

    def test_no_deeds(self):
        self.assertEqual(read_journal(HEADS).deeds, 0)

    def test_a_second_line_deeds(self):
        self.bad(HEADS + "\ndeeds", 10)


if __name__ == "__main__":
    unittest.main()
