"""Programs: their texts, and what they reckon (section 4)."""

from liarslate.errors import BadCells, BadHeard, BadInput, BadProgram, BadRound, NoProgram
from liarslate.expressions import FIGURES, is_written, number_of, RULES, Seat, steps_of, worth
from liarslate.terms import check_hand, check_house, is_from, is_hand, is_integer, is_pair, is_value

LETTERS = "abcdefghijklmnopqrstuvwxyz"
LINE_WORDS = ("inputs", "cells", "round", "put", "say")
LONGEST_NAME = 6
WIDEST_INPUTS = 20
MOST_CELLS = 4
MOST_ROUNDS = 4
MOST_PUTS = 6
MOST_WORDS = 60


def is_name(word):
    """Whether a word can be a cell's name."""
    if not 1 <= len(word) <= LONGEST_NAME or word in LINE_WORDS or word in RULES:
        return False
    return word[0] in LETTERS and all([sign in LETTERS or sign in FIGURES for sign in word])


class Draft:
    """A program that is being read: what its lines have told so far."""

    def __init__(self):
        self.inputs = None
        self.names = ()
        self.sends = []
        self.puts = []
        self.end = None

    def take(self, line):
        """Whether this line can stand next; if it can, it is kept."""
        words = line.split(" ")
        if len(words) > MOST_WORDS or self.end is not None:
            return False
        if self.inputs is None:
            return self.take_inputs(words)
        if not self.names:
            return self.take_cells(words)
        if words[0] == "round":
            return self.take_round(words)
        return self.sends != [] and self.take_behind(words)

    def take_inputs(self, words):
        """Likewise, of the line of inputs."""
        if len(words) != 3 or words[0] != "inputs":
            return False
        low, high = number_of(words[1]), number_of(words[2])
        if not is_written(low) or not is_written(high) or not low <= high <= low + WIDEST_INPUTS:
            return False
        self.inputs = (low, high)
        return True

    def take_cells(self, words):
        """Likewise, of the line of cells."""
        names = tuple(words[1:])
        if words[0] != "cells" or not 1 <= len(names) <= MOST_CELLS or len(set(names)) != len(names):
            return False
        if not all([is_name(name) for name in names]):
            return False
        self.names = names
        return True

    def take_round(self, words):
        """Likewise, of a line that begins a round."""
        steps = steps_of(words[1:], self.names, False)
        if steps is None or len(self.sends) == MOST_ROUNDS:
            return False
        self.sends.append(steps)
        self.puts.append([])
        return True

    def take_behind(self, words):
        """Likewise, of a line behind the first of some round."""
        if words[0] == "put":
            return self.take_put(words)
        self.end = steps_of(words[1:], self.names, False) if words[0] == "say" else None
        return self.end is not None

    def take_put(self, words):
        """Likewise, of a line that puts a cell."""
        if len(words) < 3 or words[1] not in self.names or len(self.puts[-1]) == MOST_PUTS:
            return False
        steps = steps_of(words[2:], self.names, True)
        if steps is None:
            return False
        self.puts[-1].append((self.names.index(words[1]), steps))
        return True


class Program:
    """A program for the calm world: one text for all hands."""

    def __init__(self, text):
        if not isinstance(text, str):
            raise BadProgram(0)
        draft = Draft()
        lines = text.split("\n")
        for number, line in enumerate(lines, start=1):
            if not draft.take(line):
                raise BadProgram(number)
        if draft.end is None:
            raise BadProgram(len(lines) + 1)
        self.text = text
        self.rounds = len(draft.sends)
        self.inputs = draft.inputs
        self.names = draft.names
        self._sends = draft.sends
        self._puts = draft.puts
        self._end = draft.end

    def __eq__(self, other):
        return isinstance(other, Program) and self.text == other.text


def is_told_round(value):
    """Whether value is what program_of wants of a round."""
    if not is_pair(value) or not isinstance(value[0], str) or not isinstance(value[1], tuple):
        return False
    return all([is_pair(put) and isinstance(put[0], str) and isinstance(put[1], str) for put in value[1]])


def is_told(inputs, cells, rounds, say):
    """Whether these are of the kinds that program_of wants."""
    if not is_pair(inputs) or not all([is_integer(number) for number in inputs]):
        return False
    if not isinstance(cells, tuple) or not all([isinstance(name, str) for name in cells]):
        return False
    if not isinstance(rounds, tuple) or not all([is_told_round(told) for told in rounds]):
        return False
    return isinstance(say, str)


def program_of(inputs, cells, rounds, say):
    """The Program with the lines that these tell."""
    if not is_told(inputs, cells, rounds, say):
        raise BadProgram(0)
    lines = [f"inputs {inputs[0]} {inputs[1]}", " ".join(["cells", *cells])]
    for sends, puts in rounds:
        lines.append(f"round {sends}")
        lines.extend([f"put {name} {told}" for name, told in puts])
    lines.append(f"say {say}")
    return Program("\n".join(lines))


# What others reckon with, once all that they were passed is known to be right.


def all_inputs(program):
    """All inputs, ascending."""
    low, high = program.inputs
    return tuple(range(low, high + 1))


def first_cells(program, value):
    """The CELLS at first, with this input."""
    return (value,) + (0,) * (len(program.names) - 1)


def value_sent(program, house, hand, at, cells):
    """What the hand sends in round at."""
    return worth(program._sends[at - 1], cells, Seat(house, hand, ()))


def cells_later(program, house, hand, at, cells, heard):
    """The CELLS behind round at in which this was heard."""
    seat = Seat(house, hand, heard)
    held = list(cells)
    for cell, steps in program._puts[at - 1]:
        held[cell] = worth(steps, held, seat)
    return tuple(held)


def value_said(program, house, hand, cells):
    """What the hand says at the end."""
    return worth(program._end, cells, Seat(house, hand, ()))


def check_program(program):
    """Refuses what is no PROGRAM."""
    if not isinstance(program, Program):
        raise NoProgram(program)


def is_input(program, value):
    """Whether value is an input of the program."""
    low, high = program.inputs
    return is_from(value, low, high)


def check_input(program, value):
    """Refuses what is no input of the program."""
    if not is_input(program, value):
        raise BadInput(value)


def check_place(program, house, hand):
    """Refuses what is no PROGRAM, no HOUSE or no HAND of it."""
    check_program(program)
    check_house(house)
    check_hand(hand, house[0])


def check_round(program, at):
    """Refuses what is no round of the program."""
    if not is_from(at, 1, program.rounds):
        raise BadRound(at)


def check_cells(program, cells):
    """Refuses what are no CELLS."""
    if not isinstance(cells, tuple) or len(cells) != len(program.names):
        raise BadCells(cells)
    if not all([is_value(value) for value in cells]):
        raise BadCells(cells)


def is_heard(house, hand, value):
    """Whether value is what this hand can hear in a round: n - t hands with VALUES, itself among them."""
    n, t = house
    if not isinstance(value, tuple) or len(value) != n - t:
        return False
    if not all([is_pair(pair) and is_hand(pair[0], n) and is_value(pair[1]) for pair in value]):
        return False
    hands = [pair[0] for pair in value]
    return hand in hands and all([one < other for one, other in zip(hands, hands[1:])])


def input_values(program):
    """All inputs of the program."""
    check_program(program)
    return all_inputs(program)


def begun(program, value):
    """The CELLS at first, with this input."""
    check_program(program)
    check_input(program, value)
    return first_cells(program, value)


def sent(program, house, hand, at, cells):
    """What the hand sends in round at."""
    check_place(program, house, hand)
    check_round(program, at)
    check_cells(program, cells)
    return value_sent(program, house, hand, at, cells)


def later(program, house, hand, at, cells, heard):
    """The CELLS behind round at, if these hands sent these VALUES."""
    check_place(program, house, hand)
    check_round(program, at)
    check_cells(program, cells)
    if not is_heard(house, hand, heard):
        raise BadHeard(heard)
    return cells_later(program, house, hand, at, cells, heard)


def said(program, house, hand, cells):
    """What the hand says at the end."""
    check_place(program, house, hand)
    check_cells(program, cells)
    return value_said(program, house, hand, cells)
