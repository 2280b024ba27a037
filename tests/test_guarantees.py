"""The guarantees (a) to (i) of section 3, each across files, on benches that were led by chance."""

import unittest

from liarslate.benches import Bench
from liarslate.calm import grown, is_calm, letters, says
from liarslate.claims import holds
from liarslate.counts import breaks, broken, played, why
from liarslate.desk import Desk
from liarslate.ends import brought, claimed, ends, for_all, net_break, shows_brought
from liarslate.errors import NoBreak, Wide
from liarslate.journals import journal, read_journal
from liarslate.layers import fall, fallen, falls, Loose
from liarslate.lies import passing, takeable
from liarslate.nets import back, Net, replayed
from liarslate.records import explains, first_lie, inputs_of, is_record, kept, liars_in, record
from liarslate.sealing import Sealed, sealed_breaks, sealed_broken
from liarslate.spreading import Spread
from liarslate.texts import Program
from liarslate.told import calm_of, is_story, shared, story, told, told_all, told_at
from liarslate.waiting import late, over, to_rest, waits
from tests.bench_helpers import bench_state, do, led_bench, random_deed, random_start, text_of_deed
from tests.helpers import Case, chances
from tests.loose_helpers import LAYERS
from tests.net_helpers import honest_of, lead, led_net, state
from tests.test_layers import do_deeds
from tests.test_names import follow, plain_text, renamed_calm, renamed_hands, renamed_letter, renamed_row, renamed_start

SENTENCES = ("all", "heard", "one", "own")
HOUSES = ((1, 0), (2, 0), (4, 1), (4, 1), (5, 1), (7, 2))


def moments(chance, many=25, **start):
    """Benches, at the many moments to which deeds by chance lead one."""
    bench = Bench(*random_start(chance, **start))
    for _ in range(many):
        do(bench, random_deed(chance, bench))
        yield bench


class OneRun(Case):
    """(a)."""

    def test_at_every_moment(self):
        for chance in chances(210, 12):
            for bench in moments(chance, house=chance.choice(HOUSES)):
                net = bench.net_now()
                everyone = told_all(net)
                self.assertTrue(is_calm(bench.program, bench.house, everyone))
                sent = letters(bench.program, bench.house, everyone)
                for hand in honest_of(net):
                    self.assertIn(hand, bench)
                    self.assertTrue(set(net.used(hand)) <= set(sent))
                    self.assertEqual(everyone[hand], (bench.inputs[hand], net.lots(hand)))
                    self.assertEqual(says(bench.program, bench.house, everyone)[hand], net.says[hand])
                    mine = told(net, hand)
                    self.assertTrue(grown(bench.program, bench.house, mine, everyone))
                    self.assertTrue(grown(bench.program, bench.house, shared(net), mine))
                    self.assertEqual(mine[hand], everyone[hand])
                    rows = story(net, hand)
                    self.assertTrue(is_story(bench.program, bench.house, rows))
                    within = calm_of(bench.program, bench.house, rows)
                    self.assertTrue(grown(bench.program, bench.house, within, mine))


class Growth(Case):
    """(b)."""

    def test_told_later_has_all_that_was_told(self):
        for chance in chances(211, 10):
            net = led_net(chance, 0, house=chance.choice(HOUSES), rounds=chance.randint(1, 2))
            for _ in lead(chance, net, 120, lies=0.1):
                pass
            runs, alone = [], []
            for many in range(len(net)):
                earlier = back(net, len(net) - many)
                runs.append(told_all(earlier))
                alone.append([told(earlier, hand) for hand in honest_of(net)])
                self.assertEqual(alone[-1], [told_at(net, hand, many) for hand in honest_of(net)])
            runs.append(told_all(net))
            for elder, newer in zip(runs, runs[1:]):
                self.assertTrue(grown(net.program, net.house, elder, newer))
            for elder, newer in zip(alone, alone[1:]):
                for one, other in zip(elder, newer):
                    self.assertTrue(grown(net.program, net.house, one, other))


class GoingOn(Case):
    """(c)."""

    def test_at_rest(self):
        for chance in chances(212, 25):
            bench = led_bench(chance, 20, house=chance.choice(HOUSES))
            many = to_rest(bench.net_now())
            self.assertEqual(bench.rest(), many)
            net = bench.net_now()
            self.assertTrue(over(net))
            self.assertEqual(late(net), ())
            for hand in honest_of(net):
                self.assertIsNotNone(net.says[hand])
                self.assertEqual(set(net.used(hand)), set(net.used(honest_of(net)[0])))
                self.assertEqual(waits(net, hand), ())


class Ends(Case):
    """(d)."""

    def test_both_ways(self):
        for chance in chances(213, 12):
            house = chance.choice(((2, 0), (4, 1), (4, 1)))
            program = Program(plain_text(chance, 1, (0, 4)))
            net = led_net(chance, 0, house=house, rounds=1)
            inputs = tuple(None if value is None else chance.randint(0, 4) for value in net.inputs)
            net = Net(program, house, inputs, net.liars)
            rows = ends(program, house, net.liars, inputs, 200000)
            for _ in lead(chance, net, 150, lies=0.2):
                pass
            net.rest()
            self.assertIn(net.says, rows)
            for row in chance.sample(rows, min(3, len(rows))):
                wanted = [value for value in row if value is not None]
                found = claimed(program, house, net.liars, inputs, ("within", min(wanted), min(wanted)), 200000)
                if found[0] == "breaks":
                    log = brought(program, house, net.liars, found[1])
                    self.assertTrue(shows_brought(program, house, net.liars, found[1], log))
                    self.assertIn(replayed(program, house, inputs, net.liars, log).says, rows)

    def test_a_claim_that_holds_is_broken_by_no_net(self):
        seen = set()
        for chance in chances(214, 12):
            program = Program(plain_text(chance, 1, (0, 1)))
            for claim in (("alike",), ("near", 2), ("among",), ("between",), ("within", -1, 1)):
                word = for_all(program, (4, 1), claim, 1728)[0]
                seen.add(word)
                if word == "breaks":
                    inputs, liars, log = net_break(program, (4, 1), claim, 1728)
                    net = replayed(program, (4, 1), inputs, liars, log)
                    self.assertFalse(holds(claim, net.says, inputs))
                    continue
                self.refuses(NoBreak, None, net_break, program, (4, 1), claim, 1728)
                for liars in ((), (0,), (3,)):
                    inputs = tuple(None if hand in liars else chance.randint(0, 1) for hand in range(4))
                    net = Net(program, (4, 1), inputs, liars)
                    for _ in lead(chance, net, 100, lies=0.2):
                        pass
                    net.rest()
                    self.assertTrue(holds(claim, net.says, inputs))
        self.assertEqual(seen, {"breaks", "holds"})


class Counts(Case):
    """(e)."""

    def test_what_can_be_broken_is_and_nothing_else(self):
        for chance in chances(215, 120):
            n = chance.randint(2, 6)
            t = chance.randint(0, n - 2)
            counts = tuple(chance.randint(1, n + 1) for _ in range(3))
            fragile = why(n, t, counts)
            for sentence in SENTENCES:
                talk = breaks(n, t, counts, sentence)
                self.assertEqual(talk is not None, sentence in fragile)
                if talk is not None:
                    self.assertIn(sentence, broken(n, counts, talk))
            liars = tuple(sorted(chance.sample(range(n), chance.randint(0, t))))
            first = chance.randrange(n)
            spread = Spread(n, counts, liars, first, None if first in liars else 5)
            for _ in range(40):
                if liars and chance.random() < 0.4:
                    to = chance.choice([hand for hand in range(n) if hand not in liars])
                    kind = chance.choice(("said", "echo", "promise"))
                    spread.lie(chance.choice(liars), to, kind, chance.choice((5, 6)))
                elif spread.under_way:
                    spread.deliver(chance.choice(spread.under_way)[0])
            spread.rest()
            talk = (liars, first, None if first in liars else 5, spread.log)
            self.assertTrue(played(n, counts, talk) == spread)
            self.assertLessEqual(set(broken(n, counts, talk)), set(fragile))

    def test_of_seals(self):
        for chance in chances(216, 60):
            n = chance.randint(2, 6)
            t, count = chance.randint(0, n - 2), chance.randint(1, n + 2)
            for sentence in SENTENCES:
                talk = sealed_breaks(n, t, count, sentence)
                if talk is not None:
                    self.assertIn(sentence, sealed_broken(n, count, talk))
                else:
                    sealed = Sealed(n, count, tuple(range(n - t, n)), 0, 5)
                    sealed.rest()
                    self.assertNotIn(sentence, sealed_broken(n, count, (sealed.liars, 0, 5, sealed.log)))


class Layers(Case):
    """(f)."""

    def test_without_a_layer(self):
        for number, layer in enumerate(LAYERS):
            for chance in chances(217 + number, 8):
                bench = led_bench(chance, 0, house=chance.choice(HOUSES))
                for sentence in ("all", "on", "one", "run"):
                    found = fall(bench.program, bench.house, layer, sentence)
                    if found is None:
                        continue
                    loose = Loose(bench.program, bench.house, found[0], found[1], layer)
                    do_deeds(loose, found[2])
                    self.assertIn(sentence, fallen(loose))
                    self.assertIn(sentence, falls(bench.house, layer))
                loose = Loose(bench.program, bench.house, bench.inputs, bench.liars, layer)
                for _ in lead(chance, loose, 100, lies=0.15):
                    pass
                loose.rest()
                self.assertLessEqual(set(fallen(loose)), set(falls(bench.house, layer)))

    def test_with_all_layers_nothing_falls(self):
        for chance in chances(221, 15):
            net = led_net(chance, 80, house=chance.choice(HOUSES), rounds=chance.randint(1, 2))
            net.rest()
            self.assertEqual(fallen(net), ())


class WhoLied(Case):
    """(g)."""

    def test_by_records_of_benches(self):
        found = 0
        for chance in chances(222, 15):
            bench = led_bench(chance, 40, house=chance.choice(((4, 1), (5, 1), (7, 2))), rounds=1)
            net = bench.net_now()
            rows = record(net)
            self.assertTrue(is_record(bench.program, bench.house, rows))
            good = kept(bench.program, bench.house, rows)
            self.assertLessEqual(set(honest_of(net)), set(good))
            self.assertTrue(explains(bench.program, bench.house, rows, bench.liars))
            for hand in honest_of(net):
                self.assertIn(bench.inputs[hand], inputs_of(bench.program, bench.house, rows, hand))
            for hand in liars_in(bench.program, bench.house, rows):
                found += 1
                self.assertIn(hand, bench.liars)
                number = first_lie(bench.program, bench.house, rows, hand)
                self.assertEqual(rows[number][0], hand)
        self.assertGreater(found, 3)


class Names(Case):
    """(h)."""

    def test_of_all_that_nets_tell(self):
        for chance in chances(223, 10):
            house = chance.choice(((4, 1), (5, 1)))
            program = Program(plain_text(chance, 1, (0, 3)))
            liars = (chance.randrange(house[0]),)
            inputs = tuple(None if hand in liars else chance.randint(0, 3) for hand in range(house[0]))
            names = chance.sample(range(house[0]), house[0])
            start = (program, house, inputs, liars)
            net, other = Net(*start), Net(*renamed_start(names, start))
            before = net.under_way
            for _ in lead(chance, net, 100, lies=0.15):
                follow(names, net.log[-1], before, other)
                before = net.under_way
            self.assertEqual(renamed_calm(names, told_all(net)), told_all(other))
            self.assertEqual(renamed_row(names, net.says), other.says)
            rows = [(names[one], names[to], (slip[0], renamed_letter(names, slip[1]))) for one, to, slip in record(net)]
            self.assertEqual(tuple(rows), record(other))
            self.assertEqual(renamed_hands(names, kept(program, house, record(net))),
                             kept(program, house, record(other)))
            for hand in range(house[0]):
                self.assertEqual(inputs_of(program, house, record(net), hand),
                                 inputs_of(program, house, record(other), names[hand]))
            told = [renamed_letter(names, letter) for letter in passing(net, liars[0])]
            self.assertEqual(sorted(told), list(passing(other, names[liars[0]])))
            for letter in passing(net, liars[0])[:3]:
                self.assertIs(takeable(net, letter), takeable(other, renamed_letter(names, letter)))


class Live(Case):
    """(i)."""

    def test_benches_tell_what_functions_tell(self):
        for chance in chances(224, 10):
            desk = Desk(journal(led_bench(chance, 0, house=chance.choice(HOUSES))))
            for _ in range(15):
                desk.say(text_of_deed(random_deed(chance, desk.bench)))
                bench = desk.bench
                net = replayed(bench.program, bench.house, bench.inputs, bench.liars, bench.net_now().log)
                self.assertEqual(state(bench.net_now()), state(net))
                self.assertEqual(desk.say("says"), " ".join("-" if value is None else str(value) for value in net.says))
                try:
                    rows = ends(bench.program, bench.house, bench.liars, bench.inputs, 2000)
                    self.assertEqual(len(desk.say("ends").split(" ; ")), len(rows))
                except Wide:
                    self.assertEqual(desk.say("ends"), "wide")

    def test_what_is_undone_leaves_nothing(self):
        for chance in chances(225, 15):
            bench = led_bench(chance, house=chance.choice(HOUSES))
            before, text = bench_state(bench), journal(bench)
            many = 8
            for _ in range(many):
                do(bench, random_deed(chance, bench))
            after, told_text = bench_state(bench), journal(bench)
            for _ in range(many):
                bench.undo()
            self.assertEqual((bench_state(bench), journal(bench)), (before, text))
            for _ in range(many):
                bench.redo()
            self.assertEqual((bench_state(bench), journal(bench)), (after, told_text))
            self.assertTrue(read_journal(told_text) == bench)

    def test_what_is_tried_leaves_nothing(self):
        for chance in chances(226, 15):
            bench = led_bench(chance, house=chance.choice(HOUSES))
            before, text = bench_state(bench), journal(bench)
            said = bench.tried(lambda held: (held.rest(), held.net_now().says))[1]
            self.assertEqual((bench_state(bench), journal(bench)), (before, text))
            net = bench.net_now()
            net.rest()
            self.assertEqual(net.says, said)


if __name__ == "__main__":
    unittest.main()
