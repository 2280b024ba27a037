"""Seals: a model of section 13, the talks that break sentences, and a search for breaks where none can be."""

import unittest
from itertools import combinations

from liarslate.sealing import Sealed, sealed_breaks, sealed_broken, sealed_played, shows_sealed_breaks
from tests.helpers import Case, chances

SENTENCES = ("all", "heard", "one", "own")
NUMBERS = [(n, t) for n in range(2, 7) for t in range(min(3, n - 1))]


class Model:
    """A Sealed made anew; all is looked up in what was heard."""

    def __init__(self, n, count, liars, first, value):
        self.n, self.count, self.liars, self.first = n, count, liars, first
        self.honest = [hand for hand in range(n) if hand not in liars]
        self.slips, self.put_ever, self.log = [], 0, []
        self.heard_by = {hand: [] for hand in self.honest}
        self.echoed, self.took = dict.fromkeys(range(n)), dict.fromkeys(range(n))
        if first not in liars:
            self.to_all(first, "said", value)

    def put(self, sender, to, kind, value):
        self.slips.append((self.put_ever, sender, to, kind, value))
        self.put_ever += 1
        return self.put_ever - 1

    def to_all(self, hand, kind, value):
        for to in self.honest:
            if to != hand:
                self.put(hand, to, kind, value)
        self.hear(hand, hand, kind, value)

    def kept(self, hand):
        said, echoes = None, {}
        for sender, kind, value in self.heard_by[hand]:
            if kind == "said" and sender == self.first and said is None:
                said = value
            if kind == "echo":
                echoes.setdefault(sender, value)
        return said, echoes

    def hear(self, hand, sender, kind, value):
        self.heard_by[hand].append((sender, kind, value))
        said, _ = self.kept(hand)
        if said is not None and self.echoed[hand] is None:
            self.echoed[hand] = said
            self.to_all(hand, "echo", said)
        if self.took[hand] is not None:
            return
        _, echoes = self.kept(hand)
        seal = value if kind == "shown" else None
        for one in sorted(set(echoes.values())):
            hands = sorted(other for other in echoes if echoes[other] == one)
            if seal is None and len(hands) >= self.count:
                seal = (one, tuple(hands[:self.count]))
        if seal is not None:
            self.took[hand] = seal[0]
            self.to_all(hand, "shown", seal)

    def deliver(self, number):
        slip = next(slip for slip in self.slips if slip[0] == number)
        self.slips.remove(slip)
        self.log.append(("deliver", number))
        self.hear(slip[2], slip[1], *slip[3:])

    def lie(self, liar, to, kind, value):
        self.log.append(("lie", liar, to, kind, value))
        return self.put(liar, to, kind, value)

    def rest(self):
        many = 0
        while self.slips:
            self.deliver(self.slips[0][0])
            many += 1
        return many


def state(sealed):
    heard = tuple(sealed.heard(hand) for hand in range(sealed.n) if hand not in sealed.liars)
    told = (sealed.n, sealed.needed, sealed.liars, sealed.first, sealed.under_way, sealed.echoes, sealed.takings)
    return told + (sealed.log, len(sealed), heard)


def model_state(model):
    heard = []
    for hand in model.honest:
        said, echoes = model.kept(hand)
        heard.append((said, tuple(sorted(echoes.items()))))
    told = (model.n, model.count, model.liars, model.first, tuple(model.slips), tuple(model.echoed.values()))
    return told + (tuple(model.took.values()), tuple(model.log), len(model.log), tuple(heard))


def seals_of(sealed, values):
    """All SEALS that a liar can show."""
    told = []
    for hands in combinations(range(sealed.n), sealed.needed):
        for value in values:
            if all(hand in sealed.liars or sealed.echoes[hand] == value for hand in hands):
                told.append((value, hands))
    return told


def random_lie(chance, sealed):
    honest = [hand for hand in range(sealed.n) if hand not in sealed.liars]
    kind = chance.choice(("said", "echo", "shown"))
    seals = seals_of(sealed, (5, 6))
    if kind == "shown" and seals:
        return chance.choice(sealed.liars), chance.choice(honest), kind, chance.choice(seals)
    return chance.choice(sealed.liars), chance.choice(honest), chance.choice(("said", "echo")), chance.choice((5, 6))


def led(chance, sealed, deeds, others=()):
    """Does so many deeds, the same ones in others, yielding behind each one."""
    for _ in range(deeds):
        lies = sealed.liars and chance.random() < 0.35
        if not lies and not sealed.under_way:
            return
        if lies:
            lie = random_lie(chance, sealed)
            for one in (sealed,) + tuple(others):
                one.lie(*lie)
        else:
            number = chance.choice(sealed.under_way)[0]
            for one in (sealed,) + tuple(others):
                one.deliver(number)
        yield


def random_start(chance, most=6):
    n, t = chance.choice([(n, t) for n, t in NUMBERS if n <= most])
    count = chance.randint(1, n + 2)
    liars = tuple(sorted(chance.sample(range(n), t)))
    first = chance.randrange(n)
    return n, count, liars, first, None if first in liars else 5


def told_broken(sealed, value):
    """The sentences that are broken, told anew."""
    taken = [took for hand, took in enumerate(sealed.takings) if hand not in sealed.liars]
    some = {took for took in taken if took is not None}
    found = {"one"} if len(some) > 1 else set()
    if value is not None and some - {value}:
        found.add("own")
    if not sealed.under_way:
        if value is not None and any(took != value for took in taken):
            found.add("heard")
        if some and None in taken:
            found.add("all")
    return tuple(sorted(found))


def row_holds(n, t, count, sentence):
    """Whether a sentence can be broken, as the document tells."""
    return {
        "one": t >= 1 and 2 * count <= n + t,
        "own": t >= 1 and count <= t,
        "heard": count > n - t or (t >= 1 and count <= t),
        "all": False,
    }[sentence]


class Going(Case):
    def test_goes_as_its_words_tell(self):
        for chance in chances(140, 150):
            start = random_start(chance)
            sealed, model = Sealed(*start), Model(*start)
            self.assertEqual(state(sealed), model_state(model))
            for _ in led(chance, sealed, 40, (model,)):
                self.assertEqual(state(sealed), model_state(model))
            twin = sealed.copy()
            self.assertTrue(twin == sealed)
            self.assertEqual(state(twin), state(sealed))
            self.assertEqual((sealed.rest(), model_state(model) == state(twin)), (model.rest(), True))
            self.assertEqual(state(sealed), model_state(model))
            self.assertEqual(sealed_played(start[0], start[1], (*start[2:], sealed.log)).log, sealed.log)

    def test_one_echo_is_enough(self):
        sealed = Sealed(3, 1, (), 1, 7)
        self.assertEqual(sealed.takings, (None, 7, None))
        self.assertEqual([slip[1:] for slip in sealed.under_way], [
            (1, 0, "said", 7), (1, 2, "said", 7), (1, 0, "echo", 7), (1, 2, "echo", 7), (1, 0, "shown", (7, (1,))),
            (1, 2, "shown", (7, (1,))),
        ])

    def test_a_seal_that_came_is_shown_on_as_it_came(self):
        sealed = Sealed(5, 2, (3, 4), 3, None)
        sealed.deliver(sealed.lie(3, 0, "echo", 5))
        sealed.deliver(sealed.lie(4, 1, "shown", (5, (3, 4))))
        self.assertEqual([slip[1:] for slip in sealed.under_way], [
            (1, 0, "shown", (5, (3, 4))), (1, 2, "shown", (5, (3, 4))),
        ])
        sealed.deliver(sealed.lie(3, 0, "said", 5))
        self.assertEqual(sealed.heard(0), (5, ((0, 5), (3, 5))))
        self.assertIn((0, 1, "shown", (5, (0, 3))), [slip[1:] for slip in sealed.under_way])

    def test_only_the_first_hands_echoes_are_sealed(self):
        """They come one by one: so there are just count of them when they are enough."""
        sealed = Sealed(4, 2, (), 3, 9)
        sealed.deliver(1)
        echo = [slip for slip in sealed.under_way if slip[1:4] == (1, 2, "echo")][0][0]
        sealed.deliver(echo)
        self.assertEqual(sealed.takings, (None,) * 4)
        self.assertEqual(sealed.heard(2), (None, ((1, 9),)))
        sealed.deliver([slip for slip in sealed.under_way if slip[1:4] == (3, 2, "echo")][0][0])
        self.assertEqual([slip[4] for slip in sealed.under_way if slip[1:4] == (2, 0, "shown")], [(9, (1, 3))])

    def test_later_words_count_for_nothing(self):
        sealed = Sealed(4, 2, (2, 3), 3, None)
        for kind, value in (("said", 5), ("said", 6), ("echo", 6), ("echo", 5)):
            sealed.deliver(sealed.lie(3, 0, kind, value))
        sealed.deliver(sealed.lie(2, 0, "said", 6))
        self.assertEqual(sealed.heard(0), (5, ((0, 5), (3, 6))))
        self.assertEqual(sealed.takings[0], None)
        sealed.deliver(sealed.lie(2, 0, "shown", (6, (2, 3))))
        sealed.deliver(sealed.lie(2, 0, "shown", (5, (2, 3))))
        self.assertEqual((sealed.takings[0], sealed.echoes[0]), (6, 5))

    def test_what_is_broken(self):
        for chance in chances(141, 150):
            start = random_start(chance)
            sealed = Sealed(*start)
            for _ in led(chance, sealed, 30):
                talk = (*start[2:], sealed.log)
                self.assertEqual(sealed_broken(start[0], start[1], talk), told_broken(sealed, start[4]))
            sealed.rest()
            talk = (*start[2:], sealed.log)
            self.assertEqual(sealed_broken(start[0], start[1], talk), told_broken(sealed, start[4]))


class Breaks(Case):
    def test_all_numbers(self):
        for n, t in [(n, t) for n in range(2, 8) for t in range(min(4, n - 1))]:
            for count in range(1, n + 3):
                for sentence in SENTENCES:
                    self.breaks_or_not(n, t, count, sentence)

    def breaks_or_not(self, n, t, count, sentence):
        talk = sealed_breaks(n, t, count, sentence)
        self.assertIs(shows_sealed_breaks(n, t, count, sentence, talk), True)
        if not row_holds(n, t, count, sentence):
            self.assertIsNone(talk)
            return
        liars, first, value, deeds = talk
        self.assertLessEqual(len(liars), t)
        sealed = Sealed(n, count, liars, first, value)
        for deed in deeds:
            if deed[0] == "rest":
                sealed.rest()
            else:
                {"deliver": sealed.deliver, "lie": sealed.lie}[deed[0]](*deed[1:])
        self.assertIn(sentence, told_broken(sealed, value))
        self.assertIn(sentence, sealed_broken(n, count, talk))
        self.assertIs(shows_sealed_breaks(n, t, count, sentence, None), False)
        if sentence == "heard":
            self.assertEqual(deeds[-1], ("rest",))
            self.assertIs(shows_sealed_breaks(n, t, count, sentence, (*talk[:3], deeds[:-1])), False)

    def test_greatest_numbers(self):
        for n, t, count in ((12, 10, 20), (12, 10, 1), (12, 3, 7), (12, 3, 8), (12, 4, 8), (12, 0, 12), (12, 0, 13)):
            for sentence in SENTENCES:
                self.breaks_or_not(n, t, count, sentence)

    def test_which_counts_bear_all_four(self):
        for n in range(2, 8):
            for t in range(min(3, n - 1)):
                fine = [count for count in range(1, n + 3)
                        if not any(sealed_breaks(n, t, count, sentence) for sentence in SENTENCES)]
                wanted = range((n + t) // 2 + 1, n - t + 1) if t else range(1, n + 1)
                self.assertEqual(fine, list(wanted))
                self.assertEqual(bool(fine), n > 3 * t)

    def test_fewer_liars_are_enough_for_more(self):
        talk = sealed_breaks(5, 1, 1, "own")
        self.assertIs(shows_sealed_breaks(5, 2, 1, "own", talk), True)
        self.assertIs(shows_sealed_breaks(5, 1, 1, "own", sealed_breaks(5, 2, 1, "own")), False)


def moments(n, count, liars, first, value):
    """All moments to which any deeds lead, of values 5 and 6: each lie is delivered as soon as it is put."""
    start = Sealed(n, count, liars, first, value)
    seen, row = {moment_of(start)}, [start]
    while row:
        sealed = row.pop()
        yield sealed
        honest = [hand for hand in range(n) if hand not in liars]
        words = [("said", one) for one in (5, 6)] + [("echo", one) for one in (5, 6)]
        words += [("shown", seal) for seal in seals_of(sealed, (5, 6))]
        deeds = [("deliver", slip[0]) for slip in sealed.under_way]
        deeds += [(liar, to, *word) for liar in liars for to in honest for word in words]
        for deed in deeds:
            twin = sealed.copy()
            twin.deliver(deed[1] if deed[0] == "deliver" else twin.lie(*deed))
            if moment_of(twin) not in seen:
                seen.add(moment_of(twin))
                row.append(twin)


def moment_of(sealed):
    heard = tuple(sealed.heard(hand) for hand in range(sealed.n) if hand not in sealed.liars)
    return heard, sealed.echoes, sealed.takings, tuple(sorted(slip[1:4] for slip in sealed.under_way))


class Search(Case):
    def search(self, n, t, counts):
        for count in counts:
            found = set()
            for first in (0, n - 1):
                liars = tuple(range(n - t, n))
                value = None if first in liars else 5
                if t == 0 and first:
                    continue
                for sealed in moments(n, count, liars, first, value):
                    found |= set(told_broken(sealed, value))
            wanted = {sentence for sentence in SENTENCES if row_holds(n, t, count, sentence)}
            self.assertEqual(found, wanted, (n, t, count))

    def test_without_liars(self):
        self.search(2, 0, range(1, 4))
        self.search(3, 0, (1, 2, 4))

    def test_three_hands_with_a_liar(self):
        self.search(3, 1, range(1, 6))

    def test_by_chance(self):
        for chance in chances(142, 400):
            n, count, liars, first, value = random_start(chance)
            sealed = Sealed(n, count, liars, first, value)
            for _ in led(chance, sealed, 60):
                pass
            now = told_broken(sealed, value)
            sealed.rest()
            for sentence in now + told_broken(sealed, value):
                self.assertTrue(row_holds(n, len(liars), count, sentence), (n, len(liars), count, sentence))


if __name__ == "__main__":
    unittest.main()
