"""Benches: deeds, taken back and done again, blocks and trials, against a model (section 16; guarantee i)."""

import unittest

from liarslate.benches import Bench
from liarslate.errors import (
    BadHand, BadHouse, BadInputs, BadLiar, BadLiars, BadProgram, BadSlip, NoBlock, NoSlip, NothingToRedo, NothingToUndo,
)
from liarslate.journals import journal
from liarslate.nets import Net, replayed
from liarslate.told import told_all
from liarslate.texts import Program
from tests.bench_helpers import bench_state, do, led_bench, Model, random_deed, random_start, text_of, undone_of
from tests.helpers import Case, chances, HALVES, odd_values
from tests.net_helpers import state
from tests.test_nets_calls import BAD_SLIPS
from tests.test_texts_calls import BAD_HOUSES

TOP = "inputs 0 9\ncells x\nround x\nput x greatest\nsay x"
GOOD = [TOP, (4, 1), (1, 2, 3, None), (3,)]
LETTER = (3, 1, 9, 9)
SLIP = ("said", LETTER)


class Fault(Exception):
    """An error that none of the package's own is."""


class Agreeing(Case):
    def agrees(self, bench, model):
        """The bench is as its model tells."""
        net = model.net()
        self.assertEqual(journal(bench), text_of(model))
        self.assertEqual(state(bench.net_now()), state(net))
        self.assertTrue(bench.net_now() == net)
        self.assertEqual((bench.program, bench.house, bench.inputs), (net.program, net.house, net.inputs))
        self.assertEqual((bench.liars, bench.deeds, len(bench)), (net.liars, len(model.stand), len(net)))
        self.assertEqual(undone_of(bench), len(model.back))
        for value in range(-1, 8):
            self.assertEqual(value in bench, 0 <= value < net.house[0] and value not in net.liars)


class Deeds(Agreeing):
    def test_done_taken_back_and_done_again(self):
        for chance in chances(180, 20):
            start = random_start(chance)
            bench, model = Bench(*start), Model(*start)
            self.agrees(bench, model)
            for _ in range(30):
                self.step(chance, bench, model)
                self.agrees(bench, model)

    def step(self, chance, bench, model):
        style = chance.random()
        if style < 0.3:
            if model.stand:
                self.assertIsNone(bench.undo())
                model.undo()
            else:
                self.refuses(NothingToUndo, None, bench.undo)
        elif style < 0.5:
            if model.back:
                self.assertIsNone(bench.redo())
                model.redo()
            else:
                self.refuses(NothingToRedo, None, bench.redo)
        else:
            deed, net = random_deed(chance, bench), model.net()
            told = do(bench, deed)
            model.do(deed)
            wanted = net.sent if deed[0] == "lie" else net.rest() if deed[0] == "rest" else None
            self.assertEqual(told, wanted)

    def test_rest_is_one_deed(self):
        bench = Bench(*GOOD)
        self.assertEqual([bench.rest(), bench.rest(), bench.deeds, len(bench)], [42, 0, 2, 42])
        bench.undo()
        self.assertEqual([bench.deeds, len(bench)], [1, 42])
        bench.undo()
        self.assertEqual([bench.deeds, len(bench), len(bench.net_now().under_way)], [0, 0, 12])
        bench.redo()
        bench.redo()
        self.assertEqual([bench.deeds, len(bench), bench.net_now().says], [2, 42, (3, 3, 3, None)])

    def test_fresh_and_rewrite(self):
        bench = Bench(*GOOD)
        bench.rest()
        bench.fresh((None, 4, 5, 6), (0,))
        self.assertEqual([bench.inputs, bench.liars, len(bench), 0 in bench, 3 in bench, bench.deeds],
                         [(None, 4, 5, 6), (0,), 0, False, True, 2])
        bench.rewrite(HALVES)
        self.assertEqual([bench.program.text, bench.inputs, bench.liars], [HALVES, (None, 4, 5, 6), (0,)])
        self.assertTrue(bench.net_now() == Net(Program(HALVES), (4, 1), (None, 4, 5, 6), (0,)))
        bench.fresh((1, 1, 1, 1), ())
        self.assertTrue(bench.net_now() == Net(Program(HALVES), (4, 1), (1, 1, 1, 1), ()))
        bench.undo()
        bench.undo()
        self.assertTrue(bench.net_now() == Net(Program(TOP), (4, 1), (None, 4, 5, 6), (0,)))
        bench.undo()
        self.assertEqual([bench.inputs, bench.liars, bench.net_now().says], [(1, 2, 3, None), (3,), (3, 3, 3, None)])

    def test_net_now_is_by_itself(self):
        bench = Bench(*GOOD)
        bench.deliver(0)
        before = bench_state(bench)
        net = bench.net_now()
        net.rest()
        net.lie(3, 0, SLIP)
        self.assertEqual(bench_state(bench), before)
        held = bench.net_now()
        now = state(held)
        bench.rest()
        bench.undo()
        bench.fresh((1, 1, 1, 1), ())
        self.assertEqual(state(held), now)

    def test_refused_deeds_are_none(self):
        """What was taken back can still be done again behind them."""
        bench = Bench(*GOOD)
        bench.deliver(0)
        bench.lie(3, 0, SLIP)
        bench.undo()
        bench.undo()
        before = bench_state(bench)
        for call, given in (
            (bench.deliver, (99,)), (bench.lie, (0, 0, SLIP)), (bench.lie, (3, 3, SLIP)), (bench.lie, (3, 0, LETTER)),
            (bench.fresh, ((1, 2, 3), (3,))), (bench.fresh, ((1, 2, 3, None), (4,))), (bench.rewrite, ("",)),
            (bench.rewrite, (TOP.replace("0 9", "4 9"),)), (bench.keep, ()),
        ):
            with self.assertRaises(ValueError):
                call(*given)
            self.assertEqual((bench_state(bench), undone_of(bench)), (before, 2))
        bench.redo()
        bench.redo()
        self.assertEqual(bench.deeds, 2)
        bench.undo()
        bench.rest()
        self.refuses(NothingToRedo, None, bench.redo)

    def test_what_a_bench_tells_is_what_functions_tell(self):
        for chance in chances(181, 10):
            bench = led_bench(chance)
            net = bench.net_now()
            self.assertTrue(net == replayed(bench.program, bench.house, bench.inputs, bench.liars, net.log))
            self.assertEqual((len(bench), told_all(net)), (len(net), told_all(bench.net_now())))


class Blocks(Agreeing):
    def nest(self, chance, bench, model, depth):
        """Deeds within a block, which may hold more blocks: whether it was left by an error."""
        held = model.held()
        keeps = chance.random() < 0.4
        fails = chance.random() < 0.2
        try:
            with bench.block() as told:
                self.assertIs(told, bench)
                for _ in range(chance.randint(0, 4)):
                    Deeds.step(self, chance, bench, model)
                    if depth and chance.random() < 0.4:
                        self.nest(chance, bench, model, depth - 1)
                self.agrees(bench, model)
                if keeps:
                    self.assertIsNone(bench.keep())
                if chance.random() < 0.5:
                    Deeds.step(self, chance, bench, model)
                if fails:
                    raise Fault
        except Fault:
            self.assertTrue(fails)
        if fails or not keeps:
            model.hold(held)
        self.agrees(bench, model)

    def test_blocks_within_blocks(self):
        for chance in chances(182, 25):
            start = random_start(chance, house=chance.choice(((1, 0), (3, 0), (4, 1), (7, 2))), rounds=1)
            bench, model = Bench(*start), Model(*start)
            for _ in range(4):
                Deeds.step(self, chance, bench, model)
            for _ in range(3):
                self.nest(chance, bench, model, 2)
                Deeds.step(self, chance, bench, model)
            self.refuses(NoBlock, None, bench.keep)

    def test_keep_belongs_to_the_innermost(self):
        bench = Bench(*GOOD)
        with bench.block():
            bench.deliver(0)
            with bench.block():
                bench.deliver(1)
                bench.keep()
            self.assertEqual(bench.deeds, 2)
        self.assertEqual(bench.deeds, 0)
        with bench.block():
            bench.deliver(0)
            bench.keep()
            with bench.block():
                bench.deliver(1)
        self.assertEqual(bench.deeds, 1)
        self.refuses(NoBlock, None, bench.keep)

    def test_undo_goes_on_ahead_of_the_block(self):
        bench = Bench(*GOOD)
        bench.deliver(0)
        bench.deliver(1)
        with bench.block():
            bench.undo()
            bench.undo()
            self.refuses(NothingToUndo, None, bench.undo)
            self.assertEqual(bench.deeds, 0)
            bench.deliver(5)
        self.assertEqual((bench.deeds, undone_of(bench), bench.net_now().log), (2, 0, (("deliver", 0), ("deliver", 1))))
        with bench.block():
            bench.undo()
            bench.keep()
        self.assertEqual((bench.deeds, undone_of(bench)), (1, 1))
        with bench.block():
            bench.redo()
        self.assertEqual((bench.deeds, undone_of(bench)), (1, 1))

    def test_errors_pass_on(self):
        bench = Bench(*GOOD)
        for kind in (Fault, KeyError, NoSlip):
            with self.assertRaises(kind):
                with bench.block():
                    bench.rest()
                    bench.keep()
                    raise kind(5)
            self.assertEqual((bench.deeds, len(bench)), (0, 0))
        self.refuses(NoBlock, None, bench.keep)

    def test_an_error_that_is_caught_within(self):
        bench = Bench(*GOOD)
        with bench.block():
            bench.deliver(0)
            self.refuses(NoSlip, 0, bench.deliver, 0)
            bench.keep()
        self.assertEqual(bench.deeds, 1)

    def test_a_block_begins_when_it_is_entered(self):
        bench = Bench(*GOOD)
        block = bench.block()
        bench.deliver(0)
        with block:
            bench.deliver(1)
        self.assertEqual(bench.deeds, 1)

    def test_new_nets_in_blocks(self):
        bench = Bench(*GOOD)
        bench.rest()
        before = bench_state(bench)
        with bench.block():
            bench.fresh((None, 1, 1, 1), (0,))
            bench.rewrite(HALVES)
            self.assertEqual((bench.liars, bench.program.text), ((0,), HALVES))
            bench.rest()
        self.assertEqual(bench_state(bench), before)


class Tried(Agreeing):
    def test_what_look_returns(self):
        bench = Bench(*GOOD)
        seen = []

        def look(held):
            seen.append(held is bench)
            held.rest()
            return held.net_now().says

        self.assertEqual(bench.tried(look), (3, 3, 3, None))
        self.assertEqual((bench.deeds, seen), (0, [True]))
        self.assertEqual(bench.tried(look, keep=True), (3, 3, 3, None))
        self.assertEqual(bench.deeds, 1)
        self.assertIsNone(bench.tried(look=lambda held: None))
        with self.assertRaises(TypeError):
            bench.tried(look, True)

    def test_keep_is_true_and_nothing_else(self):
        for keep in odd_values() + [0, 1, 2, "True"]:
            bench = Bench(*GOOD)
            bench.tried(lambda held: held.deliver(0), keep=keep)
            self.assertEqual(bench.deeds, 1 if keep is True else 0)

    def test_look_that_keeps(self):
        bench = Bench(*GOOD)

        def look(held):
            held.deliver(0)
            held.keep()
            held.deliver(1)
            return 5

        self.assertEqual((bench.tried(look), bench.deeds), (5, 2))
        self.refuses(NoBlock, None, bench.keep)

    def test_look_that_keeps_another_block(self):
        bench = Bench(*GOOD)

        def look(held):
            held.deliver(0)
            with held.block():
                held.deliver(1)
                held.keep()

        bench.tried(look)
        self.assertEqual(bench.deeds, 0)
        bench.tried(look, keep=True)
        self.assertEqual(bench.deeds, 2)

    def test_look_that_raises(self):
        bench = Bench(*GOOD)
        bench.deliver(0)
        bench.undo()

        def look(held):
            held.deliver(1)
            held.keep()
            raise Fault("told")

        for keep in (True, False):
            with self.assertRaises(Fault) as caught:
                bench.tried(look, keep=keep)
            self.assertEqual(caught.exception.args, ("told",))
            self.assertEqual((bench.deeds, undone_of(bench)), (0, 1))
        self.refuses(NoSlip, 77, bench.tried, lambda held: held.deliver(77), keep=True)
        self.refuses(NoBlock, None, bench.keep)

    def test_trials_within_trials(self):
        bench = Bench(*GOOD)
        told = bench.tried(lambda held: (held.deliver(0), held.tried(lambda again: again.rest()), held.deeds))
        self.assertEqual((told, bench.deeds), ((None, 41, 1), 0))

    def test_trials_that_are_not_kept_leave_nothing(self):
        for chance in chances(183, 15):
            bench = led_bench(chance)
            before, undone, text = bench_state(bench), undone_of(bench), journal(bench)

            def look(held):
                for _ in range(8):
                    do(held, random_deed(chance, held))
                    if chance.random() < 0.4:
                        held.undo()
                return held.deeds

            bench.tried(look)
            self.assertEqual((bench_state(bench), undone_of(bench), journal(bench)), (before, undone, text))


class Copies(Agreeing):
    def test_copies_are_alike_and_by_themselves(self):
        for chance in chances(184, 20):
            bench = led_bench(chance)
            twin = bench.copy()
            self.assertTrue(twin == bench)
            before = bench_state(bench)
            self.assertEqual((bench_state(twin), undone_of(twin)), (before, undone_of(bench)))
            for _ in range(5):
                do(twin, random_deed(chance, twin))
            self.assertFalse(twin == bench)
            self.assertEqual(bench_state(bench), before)
            for _ in range(5):
                twin.undo()
            self.assertEqual(bench_state(twin), before)
            self.assertTrue(twin == bench)

    def test_copies_are_outside_of_all_blocks(self):
        bench = Bench(*GOOD)
        with bench.block():
            bench.deliver(0)
            twin = bench.copy()
            self.refuses(NoBlock, None, twin.keep)
            twin.deliver(1)
        self.assertEqual((bench.deeds, twin.deeds), (0, 2))
        twin.undo()
        twin.undo()
        self.refuses(NothingToUndo, None, twin.undo)
        self.assertTrue(twin == bench)

    def test_equality(self):
        one, other = Bench(*GOOD), Bench(*GOOD)
        self.assertTrue(one == other)
        self.assertFalse(one != other)
        one.deliver(0)
        self.assertFalse(one == other)
        other.rest()
        self.assertFalse(one == other)
        other.undo()
        other.deliver(0)
        self.assertTrue(one == other)
        one.undo()
        other.undo()
        other.deliver(1)
        other.undo()
        self.assertTrue(one == other)
        for start in (
            [HALVES] + GOOD[1:], [TOP, (4, 1), (1, 2, 4, None), (3,)], [TOP, (4, 1), (1, 2, None, 3), (2,)],
            [TOP, (5, 1), (1, 2, 3, None, 1), (3,)], [TOP, (4, 1), (1, 2, 3, 3), ()],
        ):
            self.assertFalse(one == Bench(*start))
            self.assertTrue(one != Bench(*start))
        for other in (None, 5, (), "", journal(one), one.net_now(), [one]):
            self.assertFalse(one == other)
            self.assertTrue(one != other)

    def test_like_nets_are_not_like_benches(self):
        one, other = Bench(*GOOD), Bench(*GOOD)
        one.rest()
        for number in [deed[1] for deed in one.net_now().log]:
            other.deliver(number)
        self.assertTrue(one.net_now() == other.net_now())
        self.assertFalse(one == other)


class Calls(Case):
    def test_making(self):
        self.refuses_each(BadHouse, Bench, BAD_HOUSES, GOOD, 1)
        self.refuses_each(BadInputs, Bench, odd_values() + [(1, 2, 3), (1, 2, 3, 4), [1, 2, 3, None]], GOOD, 2)
        liars = [value for value in odd_values() if value not in ((), (0,))]
        self.refuses_each(BadLiars, Bench, liars + [3, [3], (4,), (2, 3), (True,)], GOOD, 3)
        for text in [value for value in odd_values() if not isinstance(value, str)] + [5, Program(TOP)]:
            self.refuses(BadProgram, 0, Bench, text, *GOOD[1:])
        for text, number in (("", 1), ("0", 1), (TOP + "\n", 6), (TOP[:-6], 5), (TOP.replace("round x", "round y"), 3)):
            self.refuses(BadProgram, number, Bench, text, *GOOD[1:])
        self.refuses_in_sequence(Bench, GOOD, [
            (0, "", BadProgram, 1), (1, (3, 1), BadHouse, (3, 1)), (3, (4,), BadLiars, (4,)), (2, (), BadInputs, ()),
        ])

    def test_deeds(self):
        bench = Bench(*GOOD)
        bench.deliver(0)
        before = bench_state(bench)
        for number in odd_values() + [0, -1, 99]:
            self.refuses(NoSlip, number, bench.deliver, number)
        good = [3, 1, SLIP]
        self.refuses_each(BadLiar, bench.lie, odd_values() + [0, 4, -1], good, 0)
        self.refuses_each(BadHand, bench.lie, odd_values() + [3, 4, -1], good, 1)
        self.refuses_each(BadSlip, bench.lie, BAD_SLIPS, good, 2)
        liars = [value for value in odd_values() if value not in ((), (0,))]
        self.refuses_each(BadLiars, bench.fresh, liars + [3, [3], (4,), (0, 3), (True,)], [GOOD[2], (3,)], 1)
        wrong = odd_values() + [(1, 2, 3, 4), (1, 2, 3), (1, 2, 10, None), [1, 2, 3, None]]
        self.refuses_each(BadInputs, bench.fresh, wrong, [GOOD[2], (3,)], 0)
        for text in odd_values():
            self.refuses(BadProgram, 1 if isinstance(text, str) else 0, bench.rewrite, text)
        self.refuses(BadProgram, 3, bench.rewrite, TOP.replace("round x", "round y"))
        narrow = TOP.replace("0 9", "2 9")
        self.refuses(BadInputs, (1, 2, 3, None), bench.rewrite, narrow)
        self.assertEqual(bench_state(bench), before)
        twin = bench.copy()
        self.refuses_in_sequence(twin.lie, good, [
            (0, True, BadLiar, True), (1, 3, BadHand, 3), (2, SLIP[:1], BadSlip, SLIP[:1]),
        ])
        self.refuses_in_sequence(twin.fresh, [(None, 2, 3, 4), (0,)], [(1, (4,), BadLiars, (4,)),
                                                                     (0, (1,), BadInputs, (1,))])
        twin.rewrite(narrow)
        self.assertEqual((twin.program.inputs, twin.inputs), ((2, 9), (None, 2, 3, 4)))

    def test_nothing_to_take_back(self):
        bench = Bench(*GOOD)
        self.refuses(NothingToUndo, None, bench.undo)
        self.refuses(NothingToRedo, None, bench.redo)
        bench.deliver(0)
        self.refuses(NothingToRedo, None, bench.redo)
        bench.undo()
        self.refuses(NothingToUndo, None, bench.undo)
        bench.redo()
        self.refuses(NothingToRedo, None, bench.redo)

    def test_hands_in_it(self):
        bench = Bench(*GOOD)
        self.assertEqual([value for value in odd_values() + [-1, 3, 4, 9999] if value in bench], [])
        self.assertEqual([value in bench for value in (0, 1, 2, 3)], [True, True, True, False])
        self.assertIs(0 in bench, True)

    def test_by_name(self):
        bench = Bench(liars=(3,), inputs=(1, 2, 3, None), house=(4, 1), text=TOP)
        self.assertIsNone(bench.deliver(number=0))
        self.assertEqual(bench.lie(slip=SLIP, to=1, liar=3), 14)
        self.assertIsNone(bench.fresh(liars=(), inputs=(1, 1, 1, 1)))
        self.assertIsNone(bench.rewrite(text=HALVES))
        self.assertEqual(bench.deeds, 4)

    def test_other_operators(self):
        bench = Bench(*GOOD)
        for deed in (
            lambda: bench < bench, lambda: bench + bench, lambda: bench[0], lambda: list(bench), lambda: -bench,
        ):
            with self.assertRaises(TypeError):
                deed()


if __name__ == "__main__":
    unittest.main()
