"""What several tests share: how refusals are asked for, odd values, and programs made at random."""

import random
import unittest

from liarslate.benches import Bench
from liarslate.desk import Desk
from liarslate.errors import BadHouse, SlateError
from liarslate.layers import Loose
from liarslate.nets import Net
from liarslate.sealing import Sealed
from liarslate.spreading import Spread
from liarslate.texts import Program

HOUSES = tuple((n, t) for n in range(1, 8) for t in range(3) if n > 3 * t)
HALVES = "inputs 0 9\ncells x\nround x\nput x half plus least greatest\nround x\nput x half plus least greatest\nsay x"


def deep(value, many=60):
    """The value within so many tuples."""
    for _ in range(many):
        value = (value,)
    return value


def odd_values():
    """Values of all kinds, none of them an integer."""
    return [
        None, True, False, "", "0", "said", (), (0,), ((0, 1),), [], [0], [4, 1], {}, {0: 1}, ([],), ({},),
        ((True,),), deep(()), deep(1), deep([]), Program(HALVES), Spread(2, (1, 1, 1), (), 0, 1), BadHouse(1),
        Net(Program(HALVES), (1, 0), (1,), ()), Loose(Program(HALVES), (1, 0), (1,), (), "claims"),
        Sealed(2, 1, (), 0, 1), Bench(HALVES, (1, 0), (1,), ()), Desk(HALVES + "\nhouse 1 0\ninputs 1\nliars\ndeeds"),
    ]


def alike(one, other):
    """Whether two values are equal to the kind, so that 1 and True are not."""
    if isinstance(one, (tuple, list)):
        return type(one) is type(other) and len(one) == len(other) and all(map(alike, one, other))
    return one is other or (type(one) is type(other) and one == other)


class Case(unittest.TestCase):
    """A test case that knows how to ask for refusals."""

    def refuses(self, kind, value, call, *given, **named):
        """The call raises just this error, with just this value."""
        with self.assertRaises(SlateError) as caught:
            call(*given, **named)
        self.assertIs(type(caught.exception), kind, (given, named))
        self.assertTrue(alike(caught.exception.value, value), (caught.exception.value, value))

    def refuses_each(self, kind, call, values, good, at):
        """Likewise for each of these values in place of the good argument with number at."""
        for value in values:
            self.refuses(kind, value, call, *good[:at], value, *good[at + 1:])

    def refuses_in_sequence(self, call, good, wrongs):
        """Of several wrong arguments the first listed one is raised: (number, wrong, error, its value) each.

        All are wrong at first; then the first one is right, and so on, until all are.
        """
        given = list(good)
        for at, wrong, _, _ in wrongs:
            given[at] = wrong
        for at, _, kind, value in wrongs:
            self.refuses(kind, value, call, *given)
            given[at] = good[at]
        call(*given)


ARITIES = {
    "me": 0, "hands": 0, "stops": 0, "plus": 2, "less": 2, "half": 1, "turn": 1, "pick": 3,
    "least": 0, "greatest": 0, "sum": 0, "most": 0, "count": 1, "rank": 1, "heard": 2,
}
HEARING = ("least", "greatest", "sum", "most", "count", "rank", "heard")


def random_words(chance, names, in_put, depth):
    """The words of some expression of at most this depth."""
    kind = chance.randrange(10)
    if depth == 1 and kind < 4 or kind < 2:
        return [str(chance.choice((0, 1, 2, 3, chance.randint(-99, 99))))]
    if depth == 1 and kind < 8 or kind < 4:
        return [chance.choice(names)]
    words = [word for word in ARITIES if (in_put or word not in HEARING) and (depth > 1 or not ARITIES[word])]
    word = chance.choice(words)
    told = [word]
    for _ in range(ARITIES[word]):
        told += random_words(chance, names, in_put, depth - 1)
    return told


def random_expression(chance, names, in_put, depth=4):
    """Some expression that fits into a line."""
    while True:
        words = random_words(chance, names, in_put, depth)
        if len(words) <= 50:
            return " ".join(words)


def random_text(chance, rounds=None, inputs=None):
    """The text of some program."""
    names = ["x", "y2", "total", "b"][:chance.randint(1, 4)]
    low = chance.randint(-99, 79)
    lines = ["inputs %d %d" % (inputs or (low, low + chance.randint(0, 20))), " ".join(["cells"] + names)]
    for _ in range(rounds or chance.randint(1, 4)):
        lines.append("round " + random_expression(chance, names, False))
        for _ in range(chance.randint(0, 6)):
            lines.append("put %s %s" % (chance.choice(names), random_expression(chance, names, True)))
    lines.append("say " + random_expression(chance, names, False))
    return "\n".join(lines)


def random_lot(chance, house, hand):
    """Some LOT with this hand in it."""
    n, t = house
    others = [other for other in range(n) if other != hand]
    return tuple(sorted(chance.sample(others, n - t - 1) + [hand]))


def chances(seed, many):
    """So many sources of chance, the same ones in each run."""
    for number in range(many):
        yield random.Random(1000 * seed + number)
