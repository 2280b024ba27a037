"""Guarantee (h) over sections 11 to 14: hands called otherwise, the same is told with these names."""

import unittest

from liarslate.calm import letters
from liarslate.ends import claimed, ends, for_all, spans
from liarslate.layers import fallen, Loose
from liarslate.lies import followed, passing, takeable
from liarslate.nets import Net
from liarslate.sealing import Sealed
from liarslate.texts import Program
from liarslate.told import told_all
from tests.helpers import Case, chances, random_text
from tests.loose_helpers import LAYERS
from tests.net_helpers import honest_of, lead, random_start
from tests.test_lies import liars_letter
from tests.test_sealing import led, random_start as sealed_start


def renamed_row(names, row):
    """A row by hands, by the new names."""
    told = [None] * len(row)
    for hand, value in enumerate(row):
        told[names[hand]] = value
    return tuple(told)


def renamed_hands(names, hands):
    return tuple(sorted(names[hand] for hand in hands))


def renamed_letter(names, letter):
    hand, at, value, claim = letter
    return (names[hand], at, value, renamed_hands(names, claim) if isinstance(claim, tuple) else claim)


def renamed_calm(names, calm):
    entries = [entry and (entry[0], tuple(renamed_hands(names, lot) for lot in entry[1])) for entry in calm]
    return renamed_row(names, entries)


def plain_text(chance, rounds, inputs):
    """The text of a program that asks for nobody's name."""
    while True:
        text = random_text(chance, rounds, inputs)
        if not {"me", "heard"} & set(text.split()):
            return text


def renamed_start(names, start):
    program, house, inputs, liars = start
    return program, house, renamed_row(names, inputs), renamed_hands(names, liars)


def follow(names, deed, before, other):
    """The other net does this deed, too; before: what was under way ahead of it."""
    if deed[0] == "lie":
        other.lie(names[deed[1]], names[deed[2]], (deed[3][0], renamed_letter(names, deed[3][1])))
        return
    sender, to, (kind, letter) = [slip[1:] for slip in before if slip[0] == deed[1]][0]
    wanted = (names[sender], names[to], (kind, renamed_letter(names, letter)))
    other.deliver([slip[0] for slip in other.under_way if slip[1:] == wanted][0])


def twins(chance, net, other, names):
    """Leads both nets alike, but for the names, yielding behind each deed."""
    before = net.under_way
    for _ in lead(chance, net, 150, lies=0.15):
        follow(names, net.log[-1], before, other)
        before = net.under_way
        yield


class Names(Case):
    def test_ends(self):
        for chance in chances(160, 12):
            program = Program(plain_text(chance, 1, (0, 2)))
            lot = chance.choice(((), (0,), (2,), (3,)))
            inputs = tuple(None if hand in lot else chance.randint(0, 2) for hand in range(4))
            names = chance.sample(range(4), 4)
            told = ends(program, (4, 1), lot, inputs, 200000)
            other = (program, (4, 1), renamed_hands(names, lot), renamed_row(names, inputs))
            self.assertEqual(sorted(renamed_row(names, row) for row in told), list(ends(*other, 200000)))
            self.assertEqual(spans(program, (4, 1), lot, inputs, 200000), spans(*other, 200000))
            for claim in (("alike",), ("near", 1), ("between",), ("among",)):
                one = claimed(program, (4, 1), lot, inputs, claim, 200000)
                self.assertEqual(one[0], claimed(*other, claim, 200000)[0])
                self.assertIn(for_all(program, (4, 1), claim, 200000)[0], {"breaks", one[0]})

    def test_layers(self):
        for number, layer in enumerate(LAYERS):
            for chance in chances(161 + number, 8):
                start = random_start(chance, plain=True, house=chance.choice(((4, 1), (5, 1), (7, 2))), rounds=1)
                names = chance.sample(range(start[1][0]), start[1][0])
                loose, other = Loose(*start, layer), Loose(*renamed_start(names, start), layer)
                for _ in twins(chance, loose, other, names):
                    self.assertEqual(fallen(loose), fallen(other))
                for hand in honest_of(loose):
                    used = [renamed_letter(names, letter) for letter in loose.used(hand)]
                    self.assertEqual(used, list(other.used(names[hand])))
                self.assertEqual(renamed_row(names, loose.says), other.says)

    def test_lies(self):
        for chance in chances(165, 25):
            start = random_start(chance, plain=True, house=chance.choice(((4, 1), (5, 1), (7, 2))), rounds=2, many=1)
            names = chance.sample(range(start[1][0]), start[1][0])
            net, other = Net(*start), Net(*renamed_start(names, start))
            for at, _ in enumerate(twins(chance, net, other, names)):
                if at % 30 == 0:
                    letter = liars_letter(chance, net)
                    self.assertIs(takeable(net, letter), takeable(other, renamed_letter(names, letter)))
                    liar = net.liars[0]
                    told = sorted(renamed_letter(names, letter) for letter in passing(net, liar))
                    self.assertEqual(told, list(passing(other, names[liar])))
            calm = told_all(net)
            self.assertEqual(renamed_calm(names, calm), told_all(other))
            for hand in range(net.house[0]):
                told = [renamed_letter(names, letter) for letter in followed(net.program, net.house, calm, hand)]
                self.assertEqual(told, list(followed(net.program, net.house, renamed_calm(names, calm), names[hand])))
                self.assertLessEqual(set(told), set(letters(net.program, net.house, told_all(other))))

    def test_seals(self):
        for chance in chances(166, 40):
            n, count, liars, first, value = sealed_start(chance)
            names = chance.sample(range(n), n)
            sealed = Sealed(n, count, liars, first, value)
            other = Sealed(n, count, renamed_hands(names, liars), names[first], value)
            before = sealed.under_way
            for _ in led(chance, sealed, 40):
                self.follow_sealed(names, sealed.log[-1], before, other)
                before = sealed.under_way
            self.assertEqual(renamed_row(names, sealed.takings), other.takings)
            self.assertEqual(renamed_row(names, sealed.echoes), other.echoes)

    def follow_sealed(self, names, deed, before, other):
        """Seals that hands made themselves have like hands, as just count of them are enough when they are."""
        if deed[0] == "lie":
            other.lie(names[deed[1]], names[deed[2]], deed[3], self.renamed_value(names, deed[4]))
            return
        sender, to, kind, value = [slip[1:] for slip in before if slip[0] == deed[1]][0]
        wanted = (names[sender], names[to], kind, self.renamed_value(names, value))
        other.deliver([slip[0] for slip in other.under_way if slip[1:] == wanted][0])

    def renamed_value(self, names, value):
        return (value[0], renamed_hands(names, value[1])) if isinstance(value, tuple) else value


if __name__ == "__main__":
    unittest.main()
