"""Spreads (section 6) beside a model that does word by word what the document tells, and the usual counts."""

import unittest

from liarslate.errors import NoSlip
from liarslate.spreading import Spread, usual
from tests.helpers import Case, chances


class Model:
    """A Spread made anew from the words of the document; each thing heard goes through all three rules."""

    def __init__(self, n, counts, liars, first, value):
        self.n, self.counts, self.liars, self.first = n, counts, liars, first
        self.slips, self.sent, self.log = [], 0, []
        self.heard = [[] for _ in range(n)]
        self.did = [{} for _ in range(n)]
        if first not in liars:
            self.send(first, "said", value)

    def kept(self, hand):
        """(said, echoes, promises) of what this hand heard: the first ones."""
        told, echoes, promises = None, {}, {}
        for sender, kind, value in self.heard[hand]:
            if kind == "said" and sender == self.first and told is None:
                told = value
            if kind == "echo" and sender not in echoes:
                echoes[sender] = value
            if kind == "promise" and sender not in promises:
                promises[sender] = value
        return told, echoes, promises

    def put(self, sender, to, kind, value):
        self.slips.append((self.sent, sender, to, kind, value))
        self.sent += 1

    def send(self, hand, kind, value):
        for to in range(self.n):
            if to != hand and to not in self.liars:
                self.put(hand, to, kind, value)
        self.hear(hand, hand, kind, value)

    def hear(self, hand, sender, kind, value):
        self.heard[hand].append((sender, kind, value))
        e, r, d = self.counts
        told, _, _ = self.kept(hand)
        did = self.did[hand]
        if told is not None and "echo" not in did:
            did["echo"] = told
            self.send(hand, "echo", told)
        if "promise" not in did:
            _, echoes, promises = self.kept(hand)
            for one in sorted(set(echoes.values()) | set(promises.values())):
                if list(echoes.values()).count(one) >= e or list(promises.values()).count(one) >= r:
                    assert "promise" not in did
                    did["promise"] = one
                    self.send(hand, "promise", one)
                    break
        if "take" not in did:
            _, _, promises = self.kept(hand)
            for one in sorted(set(promises.values())):
                if list(promises.values()).count(one) >= d:
                    did["take"] = one
                    break

    def deliver(self, number):
        slip = [slip for slip in self.slips if slip[0] == number][0]
        self.slips.remove(slip)
        self.log.append(("deliver", number))
        self.hear(slip[2], slip[1], slip[3], slip[4])

    def lie(self, liar, to, kind, value):
        self.log.append(("lie", liar, to, kind, value))
        self.put(liar, to, kind, value)
        return self.sent - 1

    def rest(self):
        many = 0
        while self.slips:
            self.deliver(self.slips[0][0])
            many += 1
        return many


def state(spread):
    """All that can be asked of a Spread."""
    heard = [spread.heard(hand) for hand in range(spread.n) if hand not in spread.liars]
    told = (spread.n, spread.counts, spread.liars, spread.first, spread.under_way, spread.log, len(spread), heard)
    return told + (spread.echoes, spread.promises, spread.takings)


def model_state(model):
    heard = []
    for hand in range(model.n):
        if hand not in model.liars:
            told, echoes, promises = model.kept(hand)
            heard.append((told, tuple(sorted(echoes.items())), tuple(sorted(promises.items()))))
    did = [tuple(hand.get(word) for hand in model.did) for word in ("echo", "promise", "take")]
    told = (model.n, model.counts, model.liars, model.first, tuple(model.slips), tuple(model.log), len(model.log))
    return told + (heard,) + tuple(did)


def random_start(chance, n=None, counts=None, many=None):
    """What some Spread is made of."""
    n = n or chance.randint(2, 12)
    many = chance.randint(0, n - 1) if many is None else many
    liars = tuple(sorted(chance.sample(range(n), many)))
    first = chance.randrange(n)
    if chance.random() < 0.5 and liars:
        first = chance.choice(liars)
    counts = counts or tuple(chance.randint(1, chance.choice((1, 2, n, n + 1, 20))) for _ in range(3))
    return n, counts, liars, first, None if first in liars else chance.randint(0, 99)


def random_lie(chance, spread, reach=3):
    """What some lie in this Spread needs."""
    honest = [hand for hand in range(spread.n) if hand not in spread.liars]
    kind = chance.choice(("said", "echo", "promise"))
    return chance.choice(spread.liars), chance.choice(honest), kind, chance.choice((0, 99, chance.randint(0, reach)))


def lead(chance, spread, many, others=()):
    """Does some deeds, the same ones in all these."""
    for _ in range(many):
        if spread.under_way and (not spread.liars or chance.random() < 0.6):
            number = chance.choice(spread.under_way)[0]
            for one in (spread,) + others:
                one.deliver(number)
        elif spread.liars:
            lie = random_lie(chance, spread)
            assert len({one.lie(*lie) for one in (spread,) + others}) == 1


class Random(Case):
    def test_random_spreads(self):
        for chance in chances(20, 250):
            start = random_start(chance)
            spread, model = Spread(*start), Model(*start)
            self.assertEqual(state(spread), model_state(model))
            for _ in range(chance.choice((3, 40))):
                lead(chance, spread, chance.choice((1, 1, 5)), (model,))
                self.assertEqual(state(spread), model_state(model))
            if chance.random() < 0.5:
                self.assertEqual(spread.rest(), model.rest())
                self.assertEqual(state(spread), model_state(model))
                self.assertEqual(spread.under_way, ())

    def test_small_counts(self):
        """Where one slip makes a hand echo, promise and take at once."""
        for chance in chances(21, 200):
            n = chance.randint(2, 5)
            start = random_start(chance, n, tuple(chance.randint(1, 3) for _ in range(3)))
            spread, model = Spread(*start), Model(*start)
            for _ in range(15):
                lead(chance, spread, 2, (model,))
                self.assertEqual(state(spread), model_state(model))

    def test_all_numbers_of_hands_and_liars(self):
        for n in range(2, 13):
            for many in range(n):
                for chance in chances(100 * n + many, 2):
                    start = random_start(chance, n, None, many)
                    spread, model = Spread(*start), Model(*start)
                    lead(chance, spread, 10, (model,))
                    self.assertEqual(state(spread), model_state(model))

    def test_copies_go_on_by_themselves(self):
        for chance in chances(22, 80):
            spread = Spread(*random_start(chance))
            lead(chance, spread, 20)
            before = state(spread)
            twin = spread.copy()
            self.assertIsInstance(twin, Spread)
            self.assertEqual(state(twin), before)
            self.assertTrue(twin == spread and spread == twin)
            lead(chance, twin, 10)
            twin.rest()
            self.assertEqual(state(spread), before)
            self.assertEqual(twin == spread, len(twin) == len(spread))
            other = twin.copy()
            after = state(twin)
            lead(chance, spread, 10)
            self.assertEqual((state(twin), state(other)), (after, after))


class Rules(Case):
    def test_first_slips(self):
        spread = Spread(3, (2, 1, 2), (), 1, 42)
        said = ((0, 1, 0, "said", 42), (1, 1, 2, "said", 42), (2, 1, 0, "echo", 42), (3, 1, 2, "echo", 42))
        self.assertEqual(spread.under_way, said)
        self.assertEqual((spread.echoes, spread.promises, spread.takings), ((None, 42, None), (None,) * 3, (None,) * 3))
        self.assertEqual(spread.heard(1), (42, ((1, 42),), ()))
        self.assertEqual(spread.heard(0), (None, (), ()))
        self.assertEqual((spread.log, len(spread)), ((), 0))

    def test_all_at_once(self):
        spread = Spread(2, (1, 1, 1), (), 0, 7)
        self.assertEqual([slip[3] for slip in spread.under_way], ["said", "echo", "promise"])
        self.assertEqual((spread.echoes, spread.promises, spread.takings), ((7, None),) * 3)
        spread.deliver(2)
        self.assertEqual((spread.echoes, spread.promises, spread.takings), ((7, None), (7, 7), (7, 7)))
        self.assertEqual(spread.under_way[-1], (3, 1, 0, "promise", 7))
        self.assertEqual(spread.heard(1), (None, (), ((0, 7), (1, 7))))

    def test_a_liar_first_says_nothing_of_itself(self):
        spread = Spread(4, (3, 2, 3), (0,), 0, None)
        self.assertEqual((spread.under_way, spread.echoes, spread.rest()), ((), (None,) * 4, 0))

    def test_liars_hear_nothing(self):
        spread = Spread(4, (3, 2, 3), (1, 3), 2, 9)
        self.assertEqual([slip[2] for slip in spread.under_way], [0, 0])
        spread.rest()
        self.assertEqual(spread.echoes, (9, None, 9, None))

    def test_only_said_of_first_counts(self):
        spread = Spread(4, (9, 9, 9), (2, 3), 2, None)
        spread.lie(3, 0, "said", 8)
        spread.rest()
        self.assertEqual((spread.heard(0), spread.echoes[0]), ((None, (), ()), None))
        spread.lie(2, 0, "said", 5)
        spread.lie(2, 0, "said", 6)
        spread.rest()
        self.assertEqual((spread.heard(0)[0], spread.echoes[0]), (5, 5))

    def test_only_first_echo_and_promise_of_each_count(self):
        spread = Spread(3, (2, 2, 2), (2,), 2, None)
        for kind, value in (("echo", 1), ("echo", 2), ("promise", 3), ("promise", 4)):
            spread.lie(2, 0, kind, value)
        spread.rest()
        self.assertEqual(spread.heard(0), (None, ((2, 1),), ((2, 3),)))

    def test_counts_of_echoes(self):
        for e in (1, 2, 3):
            spread = Spread(5, (e, 20, 20), (2, 3, 4), 2, None)
            for liar in (2, 3, 4):
                self.assertEqual(spread.promises[0], None)
                spread.lie(liar, 0, "echo", 6)
                spread.rest()
                if liar - 1 == e:
                    self.assertEqual(spread.promises[0], 6)
                    break

    def test_counts_of_promises(self):
        """r promises lead to one's own, which counts among the d that lead to taking."""
        for r, d in ((1, 1), (1, 2), (1, 3), (2, 2), (2, 3), (3, 2), (3, 3), (3, 4), (1, 5)):
            spread = Spread(5, (20, r, d), (1, 2, 3, 4), 1, None)
            for many, liar in enumerate((1, 2, 3, 4), start=1):
                spread.lie(liar, 0, "promise", 6)
                spread.rest()
                own = many >= r
                self.assertEqual(spread.promises[0], 6 if own else None)
                self.assertEqual(spread.takings[0], 6 if many + own >= d else None, (r, d, many))

    def test_unlike_values_are_not_put_together(self):
        spread = Spread(5, (2, 2, 2), (2, 3, 4), 2, None)
        for liar, value in ((2, 1), (3, 2), (4, 3)):
            spread.lie(liar, 0, "echo", value)
            spread.lie(liar, 0, "promise", value)
        spread.rest()
        self.assertEqual((spread.promises, spread.takings), ((None,) * 5, (None,) * 5))

    def test_takes_what_it_did_not_promise(self):
        spread = Spread(5, (2, 9, 2), (2, 3, 4), 2, None)
        for liar in (2, 3):
            spread.lie(liar, 0, "echo", 1)
        for liar in (3, 4):
            spread.lie(liar, 0, "promise", 2)
        spread.rest()
        self.assertEqual((spread.promises[0], spread.takings[0]), (1, 2))

    def test_nobody_does_anything_twice(self):
        spread = Spread(6, (1, 1, 2), (1, 2, 3, 4, 5), 1, None)
        for liar, value in ((1, 4), (2, 4), (3, 5), (4, 5), (5, 5)):
            for kind in ("said", "echo", "promise"):
                spread.lie(liar, 0, kind, value)
        spread.rest()
        self.assertEqual((spread.echoes[0], spread.promises[0], spread.takings[0]), (4, 4, 4))
        self.assertEqual(spread.under_way, ())

    def test_an_echo_ahead_of_the_said_one(self):
        spread = Spread(3, (1, 9, 9), (2,), 0, 5)
        spread.deliver(1)
        self.assertEqual((spread.echoes, spread.promises), ((5, None, None), (5, 5, None)))
        spread.deliver(0)
        self.assertEqual(spread.echoes, (5, 5, None))

    def test_rest_takes_the_least_number(self):
        for chance in chances(23, 30):
            spread = Spread(*random_start(chance))
            lead(chance, spread, 8)
            twin = spread.copy()
            before = len(spread)
            many = spread.rest()
            for number in range(many):
                least = min(slip[0] for slip in twin.under_way)
                self.assertEqual(spread.log[before + number], ("deliver", least))
                twin.deliver(least)
            self.assertEqual((twin.under_way, len(spread)), ((), before + many))
            self.assertTrue(twin == spread)
            self.assertEqual(spread.rest(), 0)

    def test_numbers_of_slips(self):
        spread = Spread(4, (3, 2, 3), (3,), 0, 5)
        self.assertEqual(spread.lie(3, 1, "echo", 0), 4)
        self.assertIsNone(spread.deliver(4))
        self.assertEqual(spread.lie(3, 1, "echo", 99), 5)
        self.refuses(NoSlip, 4, spread.deliver, 4)
        self.assertEqual(spread.log, (("lie", 3, 1, "echo", 0), ("deliver", 4), ("lie", 3, 1, "echo", 99)))
        self.assertEqual([slip[0] for slip in spread.under_way], [0, 1, 2, 3, 5])


class UsualCounts(Case):
    def test_usual(self):
        for n in range(2, 13):
            for t in range(min(n, 10)):
                e, r, d = usual(n, t)
                self.assertEqual((r, d), (t + 1, 2 * t + 1))
                self.assertTrue(2 * e > n + t and 2 * (e - 1) <= n + t)
                self.assertEqual(Spread(n, (e, r, d), (), 0, 1).counts, (e, r, d))

    def sentences(self, spread, value):
        """The four sentences of section 7 of a Spread at rest hold."""
        taken = [spread.takings[hand] for hand in range(spread.n) if hand not in spread.liars]
        self.assertLessEqual(len(set(taken) - {None}), 1)
        self.assertTrue(None not in taken or set(taken) == {None})
        if value is not None:
            self.assertEqual(set(taken), {value})

    def test_usual_counts_bear_all_sentences(self):
        """Liars who do anything by chance, some of them all for two values, never break one."""
        for chance in chances(24, 400):
            n = chance.randint(2, 12)
            t = chance.randint(0, (n - 1) // 3)
            start = random_start(chance, n, usual(n, t), chance.randint(0, t))
            spread = Spread(*start)
            honest = [hand for hand in range(n) if hand not in spread.liars]
            for hand in honest:
                for liar in spread.liars:
                    for kind in ("said", "echo", "promise"):
                        if chance.random() < 0.8:
                            spread.lie(liar, hand, kind, chance.choice((1, 2, hand % 2, start[4] or 0)))
            while spread.under_way and chance.random() < 0.99:
                spread.deliver(chance.choice(spread.under_way)[0])
            spread.rest()
            self.sentences(spread, start[4])

    def test_too_few_hands_break_some(self):
        """With n = 3 and one liar the same counts don't do: so the sentences above are asked in earnest."""
        silent = Spread(3, (3, 2, 3), (2,), 0, 5)
        silent.rest()
        self.assertEqual(silent.takings, (None, None, None))
        two = Spread(3, (2, 2, 2), (2,), 2, None)
        for hand, value in ((0, 7), (1, 8)):
            for kind in ("said", "echo", "promise"):
                two.deliver(two.lie(2, hand, kind, value))
        self.assertEqual(two.takings, (7, 8, None))


if __name__ == "__main__":
    unittest.main()
