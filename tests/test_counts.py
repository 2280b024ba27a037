"""The four sentences (section 7): their rows, the talks that break them, and a search that breaks no others."""

import itertools
import unittest

from liarslate.counts import bears, breaks, broken, fewest, fine_counts, played, shows_breaks, why
from liarslate.spreading import Spread, usual
from tests.helpers import Case, chances
from tests.test_spreading import lead, random_start

SENTENCES = ("all", "heard", "one", "own")


def rows_of_all(n, t, counts):
    """Which rows of "all" hold, by their sequence in the document."""
    (e, r, d), h = counts, n - t
    k = h if e <= t else h // (e - t)
    some = [p for p in range(1, 13) if max(1, d - t) <= p <= min(d, r, h) - 1]
    return (
        d <= t and r > d,
        bool(some) and (r <= t or e <= n),
        2 <= d <= n and r <= t and (e <= n or d >= r + 2),
        2 <= d <= n and r > t and h <= (d - 1) * k,
    )


def can(n, t, counts, sentence):
    """Whether the row of this sentence holds."""
    (e, r, d), h = counts, n - t
    if sentence == "heard":
        return e > h or d > h or e <= t or r <= t or d <= t
    if t == 0:
        return False
    if sentence == "one":
        return d <= t or (2 * d <= n + t and (r <= t or 2 * e <= n + t))
    if sentence == "own":
        return d <= t or (d <= (n - 1 if e == 1 else n) and (e <= t or r <= t))
    return any(rows_of_all(n, t, counts))


def led(n, counts, talk):
    """The Spread behind a talk, deed by deed."""
    liars, first, value, deeds = talk
    spread = Spread(n, counts, liars, first, value)
    for deed in deeds:
        {"deliver": spread.deliver, "lie": spread.lie, "rest": spread.rest}[deed[0]](*deed[1:])
    return spread


def judged(spread, value):
    """The sentences that are broken in this Spread, whose first one said value (None: it lies)."""
    taken = [spread.takings[hand] for hand in range(spread.n) if hand not in spread.liars]
    took = set(taken) - {None}
    told = {"one"} if len(took) > 1 else set()
    if value is not None and took - {value}:
        told.add("own")
    if not spread.under_way and took and None in taken:
        told.add("all")
    if not spread.under_way and value is not None and any(one != value for one in taken):
        told.add("heard")
    return tuple(sorted(told))


def all_counts(most):
    return itertools.product(range(1, most + 1), repeat=3)


class Breaks(Case):
    def holds(self, n, t, counts, sentence):
        """What breaks tells is right: looked at without shows_breaks, then with it."""
        talk = breaks(n, t, counts, sentence)
        told = (n, t, counts, sentence, talk)
        if can(n, t, counts, sentence):
            self.assertIsInstance(talk, tuple, told)
            self.assertLessEqual(len(talk[0]), t, told)
            self.assertIn(sentence, judged(led(n, counts, talk), talk[2]), told)
            if sentence in ("all", "heard"):
                self.assertEqual(talk[3][-1], ("rest",), told)
            self.assertIn(sentence, broken(n, counts, talk))
            self.assertEqual(talk, breaks(n, t, counts, sentence))
        else:
            self.assertIsNone(talk, told)
        self.assertIs(shows_breaks(n, t, counts, sentence, talk), True, told)
        self.assertIs(shows_breaks(n, t, counts, sentence, None), talk is None, told)

    def test_all_small_numbers(self):
        for n in range(2, 6):
            for t in range(n - 1):
                for counts in all_counts(n + 2):
                    for sentence in SENTENCES:
                        self.holds(n, t, counts, sentence)
                    self.assertEqual(why(n, t, counts), tuple(word for word in SENTENCES if can(n, t, counts, word)))

    def test_great_numbers(self):
        for chance in chances(30, 1500):
            n = chance.randint(6, 12)
            t = chance.randint(0, n - 2)
            counts = tuple(chance.randint(1, chance.choice((2, t + 1, n, n + 1, 20))) for _ in range(3))
            for sentence in SENTENCES:
                self.holds(n, t, counts, sentence)
            self.assertEqual(why(n, t, counts), tuple(word for word in SENTENCES if can(n, t, counts, word)))

    def test_counts_above_all_hands(self):
        for n in (2, 3, 7, 12):
            for t in range(n - 1):
                for counts in itertools.product((1, t + 1, n, 20), repeat=3):
                    for sentence in SENTENCES:
                        self.holds(n, t, counts, sentence)

    def test_each_row_of_all_is_met_alone(self):
        """So each row has numbers by which nothing but it lets the sentence be broken."""
        met = [0] * 4
        for n in range(3, 8):
            for t in range(1, n - 1):
                for counts in all_counts(n + 1):
                    rows = rows_of_all(n, t, counts)
                    if rows.count(True) == 1:
                        met[rows.index(True)] += 1
                        self.holds(n, t, counts, "all")
        self.assertTrue(all(many > 10 for many in met), met)

    def test_bounds_of_rows(self):
        """The first numbers that let a sentence be broken, and the last ones that do not."""
        for n, t, counts, sentence, told in (
            (4, 1, (3, 2, 1), "one", True), (4, 1, (3, 2, 2), "one", False), (5, 1, (3, 2, 3), "one", True),
            (5, 1, (4, 2, 3), "one", False), (5, 1, (4, 1, 3), "one", True), (5, 1, (3, 2, 4), "one", False),
            (5, 0, (1, 1, 1), "one", False), (4, 1, (1, 2, 3), "own", True), (4, 1, (1, 2, 4), "own", False),
            (4, 2, (2, 3, 4), "own", True), (4, 2, (2, 3, 5), "own", False), (4, 2, (3, 3, 3), "own", False),
            (4, 2, (3, 3, 2), "own", True), (4, 2, (3, 2, 4), "own", True), (4, 0, (4, 1, 4), "heard", False),
            (4, 0, (5, 1, 1), "heard", True), (4, 0, (1, 1, 5), "heard", True), (4, 0, (1, 20, 1), "heard", False),
            (4, 1, (4, 2, 3), "heard", True), (4, 1, (3, 2, 4), "heard", True), (4, 1, (3, 2, 3), "heard", False),
            (4, 1, (1, 2, 3), "heard", True), (4, 1, (3, 1, 3), "heard", True), (4, 1, (3, 2, 1), "heard", True),
            (4, 0, (5, 5, 1), "all", False), (4, 1, (5, 2, 1), "all", True), (4, 1, (5, 1, 1), "all", False),
            (4, 1, (4, 3, 3), "all", True), (4, 1, (5, 3, 3), "all", False),
        ):
            self.assertIs(breaks(n, t, counts, sentence) is not None, told, (n, t, counts, sentence))


class Others(Case):
    def test_fine_counts(self):
        for n in range(2, 7):
            for t in range(n - 1):
                fine = [counts for counts in all_counts(n) if not any(can(n, t, counts, word) for word in SENTENCES)]
                self.assertEqual(fine_counts(n, t), tuple(fine))
                self.assertEqual(bool(fine), t == 0 or n > 3 * t)
                if n > 3 * t:
                    self.assertIn(usual(n, t), fine)
        for n, t in ((12, 3), (12, 4), (12, 9), (7, 2), (10, 3), (9, 3)):
            fine = fine_counts(n, t)
            self.assertEqual(sorted(set(fine)), list(fine))
            self.assertEqual(bool(fine), n > 3 * t)
            self.assertTrue(all(why(n, t, counts) == () for counts in fine))
            self.assertEqual(usual(n, t) in fine, n > 3 * t)

    def test_bears(self):
        for n in range(2, 8):
            for counts in all_counts(n + 1):
                fine = [t for t in range(n - 1) if why(n, t, counts) == ()]
                self.assertEqual(bears(n, counts), fine[-1] if fine else None)
        self.assertEqual(bears(12, usual(12, 3)), 3)
        self.assertEqual(bears(12, (13, 1, 1)), None)
        self.assertEqual(bears(12, (1, 1, 1)), 0)
        self.assertEqual(bears(2, (20, 20, 20)), None)

    def test_fewest(self):
        for t in range(4):
            self.assertEqual(fewest(t), max(2, 3 * t + 1))


class Talks(Case):
    def test_random_talks(self):
        """Whatever is done, nothing breaks but what can be broken; what is told is what a judge of our own tells."""
        met = {word: 0 for word in SENTENCES}
        for chance in chances(31, 1500):
            n = chance.randint(2, 6)
            many = chance.randint(0, n - 2)
            counts = chance.choice((
                None, usual(n, many), tuple(chance.randint(1, n + 1) for _ in range(3)), (2, many + 1, 2),
            ))
            start = random_start(chance, n, counts, many)
            spread = Spread(*start)
            lead(chance, spread, chance.randint(0, 40))
            deeds = spread.log
            if chance.random() < 0.8:
                deeds += (("rest",),)
                spread.rest()
            talk = start[2:] + (deeds,)
            self.assertTrue(played(n, start[1], talk) == spread)
            told = broken(n, start[1], talk)
            self.assertEqual(told, judged(spread, start[4]))
            self.assertLessEqual(set(told), set(why(n, many, start[1])))
            for sentence in SENTENCES:
                met[sentence] += sentence in told
                wanted = sentence in told and (sentence in ("one", "own") or deeds[-1:] == (("rest",),))
                self.assertIs(shows_breaks(n, many, start[1], sentence, talk), wanted)
        self.assertTrue(all(many > 10 for many in met.values()), met)

    def test_sentences_one_by_one(self):
        """Each sentence broken by itself, and not broken one deed ahead."""
        rest = (("rest",),)
        lie = tuple(("lie", 2, 0, kind, 7) for kind in ("said", "echo", "promise"))
        self.assertEqual(broken(3, (3, 2, 3), ((2,), 0, 5, rest)), ("heard",))
        self.assertEqual(broken(3, (3, 2, 3), ((2,), 0, 5, ())), ())
        only = ((2,), 2, None, (lie[2], ("deliver", 0)))
        self.assertEqual(broken(3, (3, 2, 1), only), ("all",))
        self.assertEqual(broken(3, (3, 1, 1), only), ())
        self.assertEqual(broken(3, (3, 1, 1), only[:3] + (only[3] + rest,)), ())
        both = only[3] + (("lie", 2, 1, "promise", 8), ("deliver", 1))
        self.assertEqual(broken(3, (3, 2, 1), ((2,), 2, None, both)), ("one",))
        self.assertEqual(broken(3, (3, 2, 1), ((2,), 2, None, both[:3])), ())
        own = (("lie", 2, 1, "promise", 8), ("deliver", 2))
        self.assertEqual(broken(3, (3, 2, 1), ((2,), 0, 5, own)), ("own",))
        self.assertEqual(broken(3, (3, 2, 1), ((2,), 0, 5, own[:1])), ())
        self.assertEqual(broken(3, (3, 2, 1), ((2,), 0, 8, own)), ())

    def test_all_and_heard_want_nothing_under_way(self):
        deeds = (("lie", 3, 0, "promise", 8), ("deliver", 0), ("lie", 3, 1, "said", 8))
        talk = ((3,), 3, None, deeds)
        self.assertEqual(broken(4, (4, 2, 1), talk), ())
        self.assertEqual(broken(4, (4, 2, 1), talk[:3] + (deeds[:2],)), ("all",))
        # Nothing is under way, but the last deed is none that rests.
        self.assertIs(shows_breaks(4, 1, (4, 2, 1), "all", talk[:3] + (deeds[:2],)), False)
        self.assertIs(shows_breaks(4, 1, (4, 2, 1), "all", talk[:3] + (deeds[:2] + (("rest",),),)), True)
        self.assertIs(shows_breaks(4, 1, (4, 2, 1), "all", talk[:3] + (deeds[:2] + (("rest",), deeds[2]),)), False)

    def test_too_many_liars_show_nothing(self):
        deeds = tuple(
            deed for at, hand in enumerate((0, 1))
            for deed in (("lie", 3, hand, "promise", 8 + at), ("deliver", at))
        )
        for liars in ((3,), (2, 3)):
            talk = (liars, 3, None, deeds)
            self.assertIn("one", broken(4, (4, 2, 1), talk))
            for t in (0, 1, 2):
                self.assertIs(shows_breaks(4, t, (4, 2, 1), "one", talk), len(liars) <= t)

    def test_a_talk_shows_only_what_it_breaks(self):
        talk = breaks(3, 1, (2, 2, 2), "one")
        self.assertIs(shows_breaks(3, 1, (2, 2, 2), "one", talk), True)
        self.assertIs(shows_breaks(3, 1, (2, 2, 2), "all", talk), False)
        self.assertIs(shows_breaks(3, 1, (2, 2, 3), "one", talk), False)


class Search(Case):
    """With three hands and one liar all that can be done to two values is gone through, for each counts to 3."""

    FIRST_LIES = 2
    PLACES = {"said": 0, "echo": 1, "promise": 2}
    EAR = (None, (None,) * 3, (None,) * 3, None, None, None)

    def hear(self, counts, first, ears, slips, slip):
        """(ears, slips) behind this slip (from, to, kind, value)."""
        sender, x, kind, value = slip
        told, echoes, promises, echoed, promised, took = ears[x]
        echoes, promises, new = list(echoes), list(promises), []
        if kind == "said" and sender == first and told is None:
            told = value
        for word, row in (("echo", echoes), ("promise", promises)):
            if kind == word and row[sender] is None:
                row[sender] = value
        if told is not None and echoed is None:
            echoed = echoes[x] = told
            new.append((x, 1 - x, "echo", told))
        for one in (1, 2):
            if promised is None and (echoes.count(one) >= counts[0] or promises.count(one) >= counts[1]):
                promised = promises[x] = one
                new.append((x, 1 - x, "promise", one))
        for one in (1, 2):
            if took is None and promises.count(one) >= counts[2]:
                took = one
        ear = (told, tuple(echoes), tuple(promises), echoed, promised, took)
        return ears[:x] + (ear,) + ears[x + 1:], slips | frozenset(new)

    def reached(self, counts, first):
        """All (ears, slips) that can be come to."""
        now = ((self.EAR,) * 2, frozenset())
        if first == 0:
            now = self.hear(counts, first, now[0], frozenset([(0, 1, "said", 1)]), (0, 0, "said", 1))
        seen, todo = {now}, [now]
        lies = list(itertools.product((2,), (0, 1), ("said", "echo", "promise"), (1, 2)))
        while todo:
            ears, slips = todo.pop()
            following = [self.hear(counts, first, ears, slips - {slip}, slip) for slip in slips]
            for lie in lies:
                # What the liar told already counts for nothing again.
                told = ears[lie[1]][self.PLACES[lie[2]]]
                if (told if lie[2] == "said" else told[2]) is None:
                    following.append(self.hear(counts, first, ears, slips, lie))
            for other in following:
                if other not in seen:
                    seen.add(other)
                    todo.append(other)
        return seen

    def test_rows_tell_just_what_can_be_broken(self):
        for counts in all_counts(3):
            found = set()
            for first in (0, self.FIRST_LIES):
                for ears, slips in self.reached(counts, first):
                    taken = [ear[5] for ear in ears]
                    took = set(taken) - {None}
                    found |= {"one"} if len(took) > 1 else set()
                    found |= {"own"} if first == 0 and took - {1} else set()
                    found |= {"all"} if not slips and took and None in taken else set()
                    found |= {"heard"} if not slips and first == 0 and taken != [1, 1] else set()
            self.assertEqual(tuple(sorted(found)), why(3, 1, counts), counts)


if __name__ == "__main__":
    unittest.main()
