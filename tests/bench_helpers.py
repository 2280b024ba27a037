"""What the tests of benches, journals and desks share: a model of a bench, and deeds by chance."""

from liarslate.benches import Bench
from liarslate.nets import Net
from liarslate.texts import input_values, Program
from tests.helpers import HOUSES, random_text
from tests.net_helpers import fitting_letter, honest_of, random_letter, state

KINDS = ("said", "echo", "promise")


class Model:
    """A bench made anew: nothing but what it was made of, the deeds that stand, and those that were taken back."""

    def __init__(self, text, house, inputs, liars):
        self.made_of = (text, house, inputs, liars)
        self.stand, self.back = [], []

    def net(self):
        """The net behind the deeds that stand."""
        text, house, inputs, liars = self.made_of
        net = Net(Program(text), house, inputs, liars)
        for deed in self.stand:
            if deed[0] == "fresh":
                net = Net(net.program, house, deed[1], deed[2])
            elif deed[0] == "rewrite":
                net = Net(Program(deed[1]), house, net.inputs, net.liars)
            elif deed[0] == "rest":
                net.rest()
            else:
                getattr(net, deed[0])(*deed[1:])
        return net

    def do(self, deed):
        self.stand, self.back = self.stand + [deed], []

    def undo(self):
        self.stand, self.back = self.stand[:-1], [self.stand[-1]] + self.back

    def redo(self):
        self.stand, self.back = self.stand + [self.back[0]], self.back[1:]

    def held(self):
        return self.stand, self.back

    def hold(self, held):
        self.stand, self.back = held


def text_of_deed(deed):
    """The line of a deed, told anew."""
    def letter_words(letter):
        claim = letter[3]
        if isinstance(claim, tuple):
            return [*letter[:3], "lot", *claim]
        return [*letter[:3], "input", claim]

    if deed[0] == "lie":
        words = ["lie", deed[1], deed[2], deed[3][0], *letter_words(deed[3][1])]
    elif deed[0] == "fresh":
        words = ["fresh", *["-" if value is None else value for value in deed[1]], "liars", *deed[2]]
    elif deed[0] == "rewrite":
        return "rewrite " + " / ".join(deed[1].split("\n"))
    else:
        words = deed
    return " ".join(str(word) for word in words)


def text_of(model):
    """The journal of a model."""
    text, house, inputs, liars = model.made_of
    heads = [text, "house %d %d" % house]
    heads.append(" ".join(["inputs"] + ["-" if value is None else str(value) for value in inputs]))
    heads.append(" ".join(["liars"] + [str(hand) for hand in liars]))
    return "\n".join(heads + ["deeds"] + [text_of_deed(deed) for deed in model.stand])


def bench_state(bench):
    """All that can be asked of a bench, less what can be done again."""
    told = (bench.program, bench.house, bench.inputs, bench.liars, bench.deeds, len(bench))
    return told + ([value in bench for value in range(-1, 8)], state(bench.net_now()))


def undone_of(bench):
    """How many deeds can be done again."""
    twin = bench.copy()
    many = 0
    while True:
        try:
            twin.redo()
        except ValueError:
            return many
        many += 1


def random_start(chance, house=None, rounds=None):
    house = house or chance.choice(HOUSES)
    text = random_text(chance, rounds or chance.randint(1, 2), (0, 9))
    return (text, house) + random_people(chance, Program(text), house)


def random_people(chance, program, house):
    """(inputs, liars) of some net."""
    liars = tuple(sorted(chance.sample(range(house[0]), chance.randint(0, house[1]))))
    values = input_values(program)
    return tuple(None if hand in liars else chance.choice(values) for hand in range(house[0])), liars


def random_deed(chance, bench):
    """Some deed that can be done, as journals have them."""
    style = chance.randrange(20)
    net = bench.net_now()
    if style == 0:
        return ("fresh",) + random_people(chance, bench.program, bench.house)
    if style == 1:
        return ("rewrite", random_text(chance, chance.randint(1, 2), (0, 9)))
    if style == 2 or not net.under_way and not net.liars:
        return ("rest",)
    if net.liars and (style < 8 or not net.under_way):
        liar = chance.choice(net.liars)
        letter = fitting_letter(chance, net, liar) if chance.random() < 0.5 else random_letter(chance, net)
        return ("lie", liar, chance.choice(honest_of(net)), (chance.choice(KINDS), letter))
    return ("deliver", chance.choice(net.under_way)[0])


def do(bench, deed):
    return getattr(bench, deed[0])(*deed[1:])


def led_bench(chance, many=None, **start):
    """A bench at which some deeds were done, and some taken back."""
    bench = Bench(*random_start(chance, **start))
    for _ in range(chance.randint(0, 25) if many is None else many):
        if bench.deeds and chance.random() < 0.1:
            bench.undo()
        else:
            do(bench, random_deed(chance, bench))
    return bench
