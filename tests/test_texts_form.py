"""The form of programs' texts: Program and program_of (section 4)."""

import unittest

from liarslate.errors import BadProgram
from liarslate.spreading import Spread
from liarslate.texts import Program, program_of
from tests.helpers import ARITIES, Case, chances, deep, HALVES, HEARING, odd_values, random_text

BASE = ["inputs 0 9", "cells x y", "round x", "put x plus least y", "say x"]


def spread_out(words):
    """An expression of so many words that is not deep."""
    if words == 1:
        return "x"
    if words == 2:
        return "half x"
    left = (words - 1) // 2
    return "plus %s %s" % (spread_out(left), spread_out(words - 1 - left))


class Form(Case):
    def stands(self, *lines):
        program = Program("\n".join(lines))
        self.assertEqual(program.text, "\n".join(lines))
        return program

    def fails(self, number, *lines):
        self.refuses(BadProgram, number, Program, "\n".join(lines))

    def at(self, number, line):
        """The base's lines with another one for the line with this number."""
        return BASE[:number - 1] + [line] + BASE[number:]

    def test_properties(self):
        program = self.stands(*BASE)
        self.assertEqual((program.rounds, program.inputs, program.names), (1, (0, 9), ("x", "y")))
        program = self.stands("inputs -99 -80", "cells b9 a z", *["round a"] * 4, "say 1")
        self.assertEqual((program.rounds, program.inputs, program.names), (4, (-99, -80), ("b9", "a", "z")))
        self.assertEqual(Program(text=HALVES).rounds, 2)

    def test_no_string(self):
        for value in odd_values() + [0, 7, b"inputs 0 1", list(BASE), tuple(BASE)]:
            if not isinstance(value, str):
                self.refuses(BadProgram, 0, Program, value)

    def test_inputs_line(self):
        for told in ("-99 -79", "79 99", "0 0", "-99 -99", "99 99", "-10 10", "0 20", "-1 1"):
            low, high = told.split()
            self.assertEqual(self.stands(*self.at(1, "inputs " + told)).inputs, (int(low), int(high)))
        for told in (
            "0 21", "-20 1", "1 0", "-100 -99", "-100 -90", "90 100", "99 100", "0", "", "0 1 2", "00 1", "0 01",
            "+0 1",
            "-0 1", "0  1", "0 1 ", " 0 1", "0\t1", "0 1.0", "x 1", "0 x", "0 1_0", "0 0x5", "- 5", "--1 5", "-01 5",
            "0 1e1", "None 1", "0 9999999999999", "-99999999999 5", "0 -1", "0," + " 1", "0 " + "9" * 5000,
        ):
            self.fails(1, *self.at(1, "inputs " + told))
        for line in ("", "inputs", "input 0 1", "Inputs 0 1", " inputs 0 1", "cells x", "say x", "0 1", "cells 0 1"):
            self.fails(1, *self.at(1, line))

    def test_cells_line(self):
        for told in ("x", "abcdef", "a1b2c3", "x a b c", "z9", "number cell x", "sums say2 puts", "l s e f", "i1nput",
            "e"):
            names = tuple(told.split())
            self.assertEqual(self.stands("inputs 0 1", "cells " + told, "round %s" % names[0], "say 0").names, names)
        for told in (
            "", " ", "abcdefg", "x a b c d", "x x", "a x a", "1a", "9", "-a", "A", "aB", "a_b", "x  y", "x ", " x",
            "x,y",
            "x.y", "a-b", "x\ty", "x y z x", "E", "NAME",
        ):
            self.fails(2, *self.at(2, "cells " + told))
        for line in ("cells", "cell x", "Cells x", " cells x", "names x", "inputs 0 9", "round x", "put x y", "x"):
            self.fails(2, *self.at(2, line))
        for word in ["inputs", "cells", "round", "put", "say"] + list(ARITIES):
            self.fails(2, *self.at(2, "cells " + word))
            self.fails(2, *self.at(2, "cells x " + word))

    def test_rounds(self):
        for many in (1, 2, 3, 4):
            self.assertEqual(self.stands(*BASE[:2], *["round x"] * many, "say x").rounds, many)
        self.fails(7, *BASE[:2], *["round x"] * 5, "say x")
        self.fails(3, *BASE[:2], "say x")
        self.fails(3, *BASE[:2], "put x y", "round x", "say x")
        for line in ("round", "rounds x", "Round x", "round ", "round x ", "round  x", " round x", "round z", "", "x"):
            self.fails(3, *self.at(3, line))
            self.fails(5, *BASE[:4], line, "say x")

    def test_puts(self):
        for many in range(7):
            self.stands(*BASE[:3], *["put y 1"] * many, "say x")
            self.stands(*BASE[:3], *["put y 1"] * 6, "round y", *["put x 1"] * many, "say x")
        self.fails(10, *BASE[:3], *["put y 1"] * 7, "say x")
        self.fails(12, *BASE[:3], "put y 1", "round y", *["put x 1"] * 7, "say x")
        for told in ("", " x", " x ", " z 1", " 1 1", " x z", " least 1", " x 1 2", " x y x", "  x 1", " x  1",
            " me 1", " x put"):
            self.fails(4, *self.at(4, "put" + told))
        self.fails(4, *self.at(4, "Put x 1"))
        self.fails(4, *self.at(4, "puts x 1"))

    def test_say(self):
        for told in ("0", "x", "half y", "pick x me hands", "stops"):
            self.stands(*self.at(5, "say " + told))
        for told in ("", " ", " x x", " z", " least", " x ", "  x", " half", "s x", " say"):
            self.fails(5, *self.at(5, "say" + told))
        for line in ("", "say x", "round x", "put x 1", " ", "inputs 0 9", "cells x y"):
            self.fails(6, *BASE, line)
        self.fails(6, *BASE, "", "")

    def test_no_line_out_of_its_place(self):
        for number in range(3, 6):
            for line in BASE[:2]:
                self.fails(number, *BASE[:number - 1], line, *BASE[number - 1:])

    def test_text_ends_too_early(self):
        self.fails(1, "")
        for many in range(1, 5):
            self.fails(many + 1, *BASE[:many])
            self.fails(many + 1, *BASE[:many], "")
        self.fails(4, *BASE[:2], "round x")
        self.fails(11, *BASE[:2], *["round x", "put x 1"] * 4)

    def test_first_line_that_cannot_stand(self):
        lines = list(BASE)
        for number in (5, 4, 3, 2, 1):
            lines[number - 1] = "nothing"
            self.fails(number, *lines)
        self.fails(2, BASE[0], "cells X", "round x")
        self.fails(4, *BASE[:3], "put q 1", "say q", "say q")

    def test_expressions_have_their_parts(self):
        for word, many in ARITIES.items():
            for given in range(5):
                line = "put x " + " ".join([word] + ["y"] * given)
                if given == many:
                    self.stands(*self.at(4, line))
                else:
                    self.fails(4, *self.at(4, line))

    def test_hearing_words_stand_in_put_alone(self):
        for word in HEARING:
            told = " ".join([word] + ["0"] * ARITIES[word])
            for expression in (told, "half " + told, "plus 1 " + told, "pick 0 %s 1" % told):
                self.stands(*self.at(4, "put x " + expression))
                self.fails(3, *self.at(3, "round " + expression))
                self.fails(5, *self.at(5, "say " + expression))
        for word in ARITIES:
            if word not in HEARING:
                told = " ".join([word] + ["0"] * ARITIES[word])
                self.stands(*self.at(3, "round " + told))
                self.stands(*self.at(5, "say " + told))

    def test_words_of_expressions(self):
        for word in ("-99", "99", "0", "-1", "x", "y", "me", "hands", "stops"):
            for number, line in ((3, "round "), (4, "put x "), (5, "say ")):
                self.stands(*self.at(number, line + word))
        for word in (
            "-100", "100", "-0", "00", "007", "+1", "1.0", "z", "X", "number", "cell", "number 5", "cell 0", "inputs",
            "cells", "round", "put", "say", "E", "-", "--1", "1-", "x,", "xy", "None", "9" * 5000, "1000000000",
        ):
            for number, line in ((3, "round "), (4, "put x "), (5, "say ")):
                self.fails(number, *self.at(number, line + word))

    def test_depth(self):
        halves = "half " * 11
        for told in (halves + "x", "plus 1 " + "turn " * 10 + "x", "plus " + "turn " * 10 + "x 1",
            "pick 1 2 " + halves[5:] + "x"):
            for number, line in ((3, "round "), (4, "put x "), (5, "say ")):
                self.stands(*self.at(number, line + told))
                self.fails(number, *self.at(number, line + "turn " + told))
        self.stands(*self.at(4, "put x " + "count rank " * 5 + "half least"))
        self.fails(4, *self.at(4, "put x " + "count rank " * 6 + "least"))
        self.stands(*self.at(4, "put x heard 1 " + "half " * 10 + "x"))
        self.fails(4, *self.at(4, "put x heard 1 " + "half " * 11 + "x"))
        self.fails(4, *self.at(4, "put x heard " + "half " * 11 + "x 1"))

    def test_words_in_a_line(self):
        for number, line, before in ((3, "round ", 1), (4, "put x ", 2), (5, "say ", 1)):
            for words in (58, 59, 60):
                lines = self.at(number, line + spread_out(words))
                self.assertEqual(len(lines[number - 1].split()), words + before)
                if words + before <= 60:
                    self.stands(*lines)
                else:
                    self.fails(number, *lines)

    def test_random_texts_stand(self):
        for chance in chances(1, 200):
            text = random_text(chance)
            program = Program(text)
            self.assertEqual(program.text, text)
            self.assertEqual(program.rounds, text.count("round "))
            lines = text.split("\n")
            number = chance.randrange(len(lines))
            self.refuses(BadProgram, number + 1, Program,
                "\n".join(lines[:number] + [lines[number] + " 7 7"] + lines[number + 1:]))

    def test_equality(self):
        program = Program(HALVES)
        self.assertTrue(program == Program(HALVES))
        self.assertFalse(program != Program(HALVES))
        for other in (Program(HALVES.replace("say x", "say 0")), HALVES, None, 2, (HALVES,),
            Spread(2, (1, 1, 1), (), 0, 1)):
            self.assertFalse(program == other)
            self.assertTrue(program != other)
            self.assertFalse(other == program)
        self.assertFalse(Program(HALVES) == Program(HALVES.replace("x", "y")))

    def test_other_operators(self):
        program = Program(HALVES)
        for deed in (lambda: program < program, lambda: program + program, lambda: len(program), lambda: "x" in program,
                     lambda: program[0], lambda: -program, lambda: program * 2, lambda: list(program)):
            with self.assertRaises(TypeError):
                deed()


class Told(Case):
    GOOD = ((0, 9), ("x", "y"), (("x", (("x", "plus least y"), ("y", "1"))), ("half y", ())), "turn x")

    def test_lines(self):
        program = program_of(*self.GOOD)
        self.assertIsInstance(program, Program)
        self.assertEqual(
            program.text, "inputs 0 9\ncells x y\nround x\nput x plus least y\nput y 1\nround half y\nsay turn x"
        )
        told = program_of(inputs=(-3, -3), cells=("a",), rounds=(("a", ()),), say="a")
        self.assertEqual(told, Program("inputs -3 -3\ncells a\nround a\nsay a"))

    def test_other_kinds(self):
        pairs = odd_values() + [3, (0, 1, 2), (0,), (True, 1), (0, False), ("0", "9"), (None, 1), [0, 9]]
        cells = [value for value in odd_values() if value != ()] + [3, ("x", 1), ("x", None), (("x",),), ["x"], "x"]
        rounds = [value for value in odd_values() if value != ()] + [
            3, ("x", ()), [("x", ())], (("x", []),), (["x", ()],), (("x",),), (("x", (), ()),), ((1, ()),),
            (("x", ("x", "1")),), (("x", (("x",),)),), (("x", (("x", 1),)),), (("x", ((1, "x"),)),),
            (("x", (("x", "1", "2"),)),), (("x", (["x", "1"],)),), ((None, ()),), ("xy",), (("x", "ab"),),
            (("x", ("ab",)),),
        ]
        says = [value for value in odd_values() if not isinstance(value, str)] + [3, ("x",), b"x"]
        for at, values in enumerate((pairs, cells, rounds, says)):
            for value in values:
                self.refuses(BadProgram, 0, program_of, *self.GOOD[:at], value, *self.GOOD[at + 1:])

    def test_other_kinds_ahead_of_wrong_lines(self):
        self.refuses(BadProgram, 0, program_of, (5, 0), ("X",), (), None)
        self.refuses(BadProgram, 1, program_of, (5, 0), ("X",), (), "")

    def test_wrong_lines(self):
        pair, cells, rounds, say = self.GOOD
        self.refuses(BadProgram, 1, program_of, (0, 21), cells, rounds, say)
        self.refuses(BadProgram, 1, program_of, (-100, -99), cells, rounds, say)
        self.refuses(BadProgram, 2, program_of, pair, (), rounds, say)
        self.refuses(BadProgram, 2, program_of, pair, ("",), rounds, say)
        self.refuses(BadProgram, 2, program_of, pair, ("x", "x"), rounds, say)
        self.refuses(BadProgram, 3, program_of, pair, cells, (), say)
        self.refuses(BadProgram, 4, program_of, pair, cells, (("x", (("q", "1"),)),), say)
        self.refuses(BadProgram, 4, program_of, pair, cells, (("x", (("x", ""),)),), say)
        self.refuses(BadProgram, 7, program_of, pair, cells, rounds, "")
        self.refuses(BadProgram, 7, program_of, pair, cells, rounds, "least")
        self.refuses(BadProgram, 7, program_of, pair, cells, (("x", ()),) * 5, "x")
        self.refuses(BadProgram, 8, program_of, pair, cells, rounds, "x\n")

    def test_any_strings(self):
        """What is told is put into the lines as it is, whatever lines that makes."""
        told = program_of((0, 9), ("x y",), (("x\nput y 3\nround y", ()),), "x")
        self.assertEqual(told.text, "inputs 0 9\ncells x y\nround x\nput y 3\nround y\nsay x")
        self.assertEqual((told.rounds, told.names), (2, ("x", "y")))

    def test_random_texts(self):
        for chance in chances(2, 60):
            text = random_text(chance)
            rounds = []
            for line in text.split("\n")[2:-1]:
                if line.startswith("round "):
                    rounds.append((line[6:], []))
                else:
                    rounds[-1][1].append(tuple(line.split(" ", 2)[1:]))
            program = Program(text)
            told = tuple((sends, tuple(puts)) for sends, puts in rounds)
            self.assertEqual(program_of(program.inputs, program.names, told, text.split("say ")[1]).text, text)

    def test_nested_as_deep_as_can_be(self):
        for value in (deep("x"), deep(0), deep(())):
            for at in range(4):
                self.refuses(BadProgram, 0, program_of, *self.GOOD[:at], value, *self.GOOD[at + 1:])


if __name__ == "__main__":
    unittest.main()
