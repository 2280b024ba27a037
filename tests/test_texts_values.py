"""What programs reckon (section 4): each word of the table, and random programs beside a reader of their texts."""

import unittest

from liarslate.texts import begun, input_values, later, Program, program_of, said, sent
from tests.helpers import ARITIES, Case, chances, HOUSES, random_expression, random_lot, random_text


def clip(number):
    return -9999 if number < -9999 else 9999 if number > 9999 else number


def model(words, cells, house, hand, heard):
    """The value of the expression that begins with the first of these words, which are taken away."""
    word = words.pop(0)
    if word in cells:
        return cells[word]
    if word not in ARITIES:
        return int(word)
    parts = [model(words, cells, house, hand, heard) for _ in range(ARITIES[word])]
    told = [value for _, value in heard]
    if word == "me":
        return hand
    if word == "hands":
        return house[0]
    if word == "stops":
        return house[1]
    if word == "plus":
        return clip(parts[0] + parts[1])
    if word == "less":
        return int(parts[0] < parts[1])
    if word == "half":
        return (parts[0] - parts[0] % 2) // 2
    if word == "turn":
        return 0 - parts[0]
    if word == "pick":
        return parts[2] if parts[0] else parts[1]
    if word == "least":
        return min(told)
    if word == "greatest":
        return max(told)
    if word == "sum":
        return clip(sum(told))
    if word == "most":
        most = max(told.count(value) for value in told)
        return min(value for value in told if told.count(value) == most)
    if word == "count":
        return told.count(parts[0])
    if word == "rank":
        return sorted(told)[0 if parts[0] < 0 else -1 if parts[0] >= len(told) else parts[0]]
    return dict(heard).get(parts[0], parts[1])


def model_sent(program, house, hand, at, cells):
    line = [line for line in program.text.split("\n") if line.startswith("round ")][at - 1]
    return model(line.split()[1:], dict(zip(program.names, cells)), house, hand, ())


def model_later(program, house, hand, at, cells, heard):
    held = dict(zip(program.names, cells))
    number = 0
    for line in program.text.split("\n"):
        number += line.startswith("round ")
        if number == at and line.startswith("put "):
            held[line.split()[1]] = model(line.split()[2:], held, house, hand, heard)
    return tuple(held[name] for name in program.names)


def model_said(program, house, hand, cells):
    line = program.text.split("\n")[-1]
    return model(line.split()[1:], dict(zip(program.names, cells)), house, hand, ())


class Words(Case):
    def put(self, told, house=(4, 1), hand=0, heard=((0, 5), (1, -3), (3, 5)), cells=(0, 0)):
        """What cell x holds behind a round in which it is put so."""
        program = program_of((0, 9), ("x", "y"), (("0", (("x", told),)),), "x")
        return later(program, house, hand, 1, cells, heard)[0]

    def sends(self, told, house=(4, 1), hand=0, cells=(0, 0)):
        """What is sent, which is what is said."""
        program = program_of((0, 9), ("x", "y"), ((told, ()),), told)
        value = sent(program, house, hand, 1, cells)
        self.assertEqual(said(program, house, hand, cells), value)
        self.assertEqual(type(value), int)
        return value

    def test_integers_and_cells(self):
        for number in (-99, -10, -1, 0, 1, 7, 99):
            self.assertEqual(self.sends(str(number)), number)
        self.assertEqual(self.sends("x", cells=(-9999, 4)), -9999)
        self.assertEqual(self.sends("y", cells=(-9999, 4)), 4)

    def test_seat(self):
        for house in HOUSES:
            for hand in range(house[0]):
                self.assertEqual(self.sends("me", house, hand), hand)
                self.assertEqual(self.sends("hands", house, hand), house[0])
                self.assertEqual(self.sends("stops", house, hand), house[1])

    def test_plus(self):
        for one, two, told in (
            (3, 4, 7), (-3, 4, 1), (9999, 0, 9999), (9998, 1, 9999), (9999, 1, 9999), (9999, 9999, 9999),
            (-9999, 0, -9999), (-9998, -1, -9999), (-9999, -1, -9999), (-9999, -9999, -9999), (-9999, 9999, 0),
            (5000, 5000, 9999),
        ):
            self.assertEqual(self.sends("plus x y", cells=(one, two)), told)
        self.assertEqual(self.sends("plus plus x y turn 9", cells=(9999, 9)), 9990)

    def test_less(self):
        for one, two, told in ((1, 2, 1), (2, 2, 0), (3, 2, 0), (-9999, 9999, 1), (-1, 0, 1), (0, -1, 0)):
            self.assertEqual(self.sends("less x y", cells=(one, two)), told)

    def test_half_and_turn(self):
        for one, told in ((0, 0), (1, 0), (2, 1), (3, 1), (-1, -1), (-2, -1), (-3, -2), (9999, 4999), (-9999, -5000)):
            self.assertEqual(self.sends("half x", cells=(one, 0)), told)
            self.assertEqual(self.sends("turn x", cells=(one, 0)), -one)

    def test_pick(self):
        for one, told in ((0, 7), (1, 8), (-1, 8), (9999, 8)):
            self.assertEqual(self.sends("pick x 7 8", cells=(one, 0)), told)

    def test_least_and_greatest(self):
        self.assertEqual((self.put("least"), self.put("greatest")), (-3, 5))
        for heard in (((0, 1), (1, 2), (2, 3)), ((0, 3), (1, 2), (2, 1)), ((0, 2), (1, 3), (2, 1))):
            self.assertEqual((self.put("least", heard=heard), self.put("greatest", heard=heard)), (1, 3))

    def test_sum(self):
        self.assertEqual(self.put("sum"), 7)
        for values, told in (
            ((9999, 0, 0), 9999), ((9999, 1, 0), 9999), ((9999, 9999, -9999), 9999), ((9999, -1, 0), 9998),
            ((9998, 1, 0), 9999),
            ((-9999, 0, 0), -9999), ((-9999, 0, -1), -9999), ((-9999, -9999, 9999), -9999), ((-9998, -1, 0), -9999),
            ((9999, 9999, -9998), 9999), ((9999, 5, -10), 9994), ((-9999, -5, 10), -9994),
        ):
            self.assertEqual(self.put("sum", heard=tuple(enumerate(values))), told, values)

    def test_most(self):
        self.assertEqual(self.put("most"), 5)
        for values, told in (((1, 2, 3, 4), 1), ((4, 3, 2, 1), 1), ((2, 2, 1, 3), 2), ((9, 1, 9, 1), 1),
            ((1, 9, 9, 9), 9), ((-1, 0, 0, -1), -1)):
            self.assertEqual(self.put("most", (4, 0), 0, tuple(enumerate(values))), told)

    def test_count(self):
        for told, many in (("count 5", 2), ("count -3", 1), ("count 4", 0), ("count x", 0), ("count least", 1),
            ("count greatest", 2)):
            self.assertEqual(self.put(told), many)

    def test_rank(self):
        for number, told in ((-9, -3), (-1, -3), (0, -3), (1, 5), (2, 5), (3, 5), (99, 5)):
            self.assertEqual(self.put("rank %d" % number), told)
        for number, told in ((-1, 2), (0, 2), (1, 2), (2, 4), (3, 7), (4, 7)):
            self.assertEqual(self.put("rank %d" % number, (4, 0), 1, ((0, 7), (1, 2), (2, 4), (3, 2))), told)
        self.assertEqual(self.put("rank x", cells=(9999, 0)), 5)
        self.assertEqual(self.put("rank x", cells=(-9999, 0)), -3)

    def test_heard(self):
        for number, told in ((-1, 77), (0, 5), (1, -3), (2, 77), (3, 5), (4, 77), (99, 77)):
            self.assertEqual(self.put("heard %d 77" % number), told)
        self.assertEqual(self.put("heard me 77", hand=1), -3)
        self.assertEqual(self.put("heard 1 1", (2, 0), 0, ((0, 4), (1, 0))), 0)

    def test_words_that_stand_anywhere_stand_in_put(self):
        for told, value in (("me", 3), ("hands", 4), ("stops", 1), ("plus x 1", 7), ("less x 1", 0), ("half x", 3),
            ("pick x 1 2", 2)):
            self.assertEqual(self.put(told, hand=3, cells=(6, 0)), value)

    def test_one_hand(self):
        for told in ("least", "greatest", "sum", "most", "rank 5", "rank -5", "heard 0 1", "heard me 1"):
            self.assertEqual(self.put(told, (1, 0), 0, ((0, 8),)), 8)
        self.assertEqual(self.put("count 8", (1, 0), 0, ((0, 8),)), 1)

    def test_puts_in_sequence(self):
        puts = (("x", "plus x 1"), ("y", "x"), ("x", "plus x y"), ("y", "plus y x"), ("z", "most"), ("x", "plus x z"))
        program = program_of((0, 9), ("x", "y", "z"), (("x", puts), ("y", ())), "x")
        self.assertEqual(later(program, (1, 0), 0, 1, (3, 9, 9), ((0, 5),)), (13, 12, 5))
        self.assertEqual(later(program, (1, 0), 0, 2, (3, 9, 9), ((0, 5),)), (3, 9, 9))

    def test_rounds_have_their_own_lines(self):
        rounds = tuple((str(at), (("x", "plus x %d" % at),)) for at in (1, 2, 3, 4))
        program = program_of((0, 9), ("x",), rounds, "turn x")
        for at in (1, 2, 3, 4):
            self.assertEqual(sent(program, (1, 0), 0, at, (5,)), at)
            self.assertEqual(later(program, (1, 0), 0, at, (5,), ((0, 0),)), (5 + at,))
        self.assertEqual(said(program, (1, 0), 0, (5,)), -5)

    def test_deep_and_long_lines(self):
        self.assertEqual(self.sends("half " * 11 + "x", cells=(9999, 0)), 4)
        self.assertEqual(self.sends("turn " * 11 + "x", cells=(6, 0)), -6)
        self.assertEqual(self.put("plus " * 11 + "1 2 3 4 5 6 7 8 9 10 11 12"), 78)
        self.assertEqual(self.put("less 1 " * 11 + "2"), 0)


class Inputs(Case):
    def test_input_values(self):
        for low, high in ((0, 0), (-99, -79), (79, 99), (-3, 4)):
            told = input_values(Program("inputs %d %d\ncells x\nround x\nsay x" % (low, high)))
            self.assertEqual(told, tuple(range(low, high + 1)))
            self.assertIsInstance(told, tuple)

    def test_begun(self):
        for many in (1, 2, 3, 4):
            program = program_of((-9, 9), ("a", "b", "c", "d")[:many], (("a", ()),), "a")
            for value in input_values(program):
                self.assertEqual(begun(program, value), (value, 0, 0, 0)[:many])


class Random(Case):
    def test_random_programs(self):
        for chance in chances(3, 400):
            program = Program(random_text(chance))
            house = chance.choice(HOUSES)
            hand = chance.randrange(house[0])
            reach = chance.choice((1, 5, 9999))
            for at in range(1, program.rounds + 1):
                cells = tuple(chance.randint(-reach, reach) for _ in program.names)
                heard = tuple((other, chance.randint(-reach, reach)) for other in random_lot(chance, house, hand))
                self.assertEqual(sent(program, house, hand, at, cells), model_sent(program, house, hand, at, cells))
                told = later(program, house, hand, at, cells, heard)
                self.assertEqual(told, model_later(program, house, hand, at, cells, heard))
                self.assertEqual(said(program, house, hand, told), model_said(program, house, hand, told))
                self.assertTrue(all(type(value) is int and -9999 <= value <= 9999 for value in told))

    def test_each_word_in_random_expressions(self):
        met = set()
        for chance in chances(4, 300):
            told = random_expression(chance, ["x", "y"], True, 6)
            met |= set(told.split())
            house = chance.choice(HOUSES)
            hand = chance.randrange(house[0])
            program = program_of((0, 9), ("x", "y"), (("0", (("x", told),)),), "x")
            heard = tuple((other, chance.randint(-2, 3)) for other in random_lot(chance, house, hand))
            cells = (chance.randint(-3, 3), chance.randint(-9999, 9999))
            value = model(told.split(), {"x": cells[0], "y": cells[1]}, house, hand, heard)
            self.assertEqual(later(program, house, hand, 1, cells, heard), (value, cells[1]), told)
        self.assertLessEqual(set(ARITIES), met)


if __name__ == "__main__":
    unittest.main()
