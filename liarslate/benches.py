"""Benches: nets are run at them, lied to, and taken back (section 16)."""

from liarslate.errors import NoBlock, NothingToRedo, NothingToUndo
from liarslate.nets import Net
from liarslate.terms import is_hand
from liarslate.texts import Program


class Block:
    """A part of what is done at a bench: behind it the bench is as it was ahead of it, if it is not kept."""

    def __init__(self, bench):
        self.bench = bench
        self.kept = None

    def __enter__(self):
        bench = self.bench
        self.program = bench.program
        self.inputs = bench.inputs
        self.liars = bench.liars
        self.steps = bench.steps
        self.undone = bench.undone
        self.net = bench.net
        self.outer = bench.innermost
        # The deeds in the block are done by another net: so this one needn't be made again.
        bench.net = bench.net.copy()
        bench.innermost = self
        return bench

    def __exit__(self, kind, value, trace):
        bench = self.bench
        bench.innermost = self.outer
        if self.kept is None or kind is not None:
            bench.program = self.program
            bench.inputs = self.inputs
            bench.liars = self.liars
            bench.steps = self.steps
            bench.undone = self.undone
            bench.net = self.net


class Bench:
    """A net and the deeds that led to it, which can be taken back and done again.

    steps are the deeds that stand, undone those that were taken back, the last one first to be done again.
    """

    def __init__(self, text, house, inputs, liars):
        self.program = Program(text)
        self.net = Net(self.program, house, inputs, liars)
        self.house = house
        self.inputs = inputs
        self.liars = liars
        self.made_of = (text, house, inputs, liars)
        self.steps = ()
        self.undone = ()
        self.innermost = None

    def __eq__(self, other):
        return isinstance(other, Bench) and self.made_of == other.made_of and self.steps == other.steps

    def __len__(self):
        return len(self.net)

    def __contains__(self, x):
        return is_hand(x, self.house[0]) and x not in self.liars

    @property
    def deeds(self):
        """How many deeds stand."""
        return len(self.steps)

    def _note(self, deed):
        """A deed stands from now on: what was taken back can't be done again any more."""
        self.steps = self.steps + (deed,)
        self.undone = ()

    def _begin(self, program, inputs, liars):
        """Goes on with a new net of these."""
        self.net = Net(program, self.house, inputs, liars)
        self.program = program
        self.inputs = inputs
        self.liars = liars

    def _do(self, deed):
        """Does a deed that could be done where it stands."""
        if deed[0] == "deliver":
            self.net.deliver(deed[1])
        elif deed[0] == "lie":
            self.net.lie(deed[1], deed[2], deed[3])
        elif deed[0] == "rest":
            self.net.rest()
        elif deed[0] == "fresh":
            self._begin(self.program, deed[1], deed[2])
        else:
            self._begin(Program(deed[1]), self.inputs, self.liars)

    def _make_again(self):
        """Makes the net anew: what was done ahead of the last new net matters only by its program, inputs and liars."""
        text, _, inputs, liars = self.made_of
        begins = 0
        for number, deed in enumerate(self.steps, start=1):
            if deed[0] == "fresh":
                inputs, liars = deed[1], deed[2]
                begins = number
            elif deed[0] == "rewrite":
                text = deed[1]
                begins = number
        self._begin(Program(text), inputs, liars)
        for deed in self.steps[begins:]:
            self._do(deed)

    def deliver(self, number):
        """The slip with this number is heard."""
        self.net.deliver(number)
        self._note(("deliver", number))

    def lie(self, liar, to, slip):
        """Puts such a slip of a liar: its number."""
        number = self.net.lie(liar, to, slip)
        self._note(("lie", liar, to, slip))
        return number

    def rest(self):
        """Delivers slips, the least number first, until none is under way: how many."""
        many = self.net.rest()
        self._note(("rest",))
        return many

    def fresh(self, inputs, liars):
        """Goes on with a new net of these inputs and liars."""
        self._begin(self.program, inputs, liars)
        self._note(("fresh", inputs, liars))

    def rewrite(self, text):
        """Goes on with a new net of this program."""
        self._begin(Program(text), self.inputs, self.liars)
        self._note(("rewrite", text))

    def net_now(self):
        """A Net that stands as the bench's does."""
        return self.net.copy()

    def undo(self):
        """Takes the last deed back that stands."""
        if not self.steps:
            raise NothingToUndo(None)
        self.undone = self.undone + (self.steps[-1],)
        self.steps = self.steps[:-1]
        self._make_again()

    def redo(self):
        """Does the deed again that was taken back last."""
        if not self.undone:
            raise NothingToRedo(None)
        deed = self.undone[-1]
        self._do(deed)
        self.steps = self.steps + (deed,)
        self.undone = self.undone[:-1]

    def block(self):
        """A block: behind it all is as it was ahead of it, if it is not kept."""
        return Block(self)

    def keep(self):
        """What is done in the innermost block stays."""
        block = self.innermost
        if block is None:
            raise NoBlock(None)
        block.kept = True

    def tried(self, look, *, keep=False):
        """Calls look with the bench within a block, kept if keep is True: what it returned."""
        with self.block() as held:
            told = look(held)
            if keep is True:
                held.keep()
        return told

    def copy(self):
        """An equal Bench by itself."""
        text, house, inputs, liars = self.made_of
        twin = Bench(text, house, inputs, liars)
        twin.program = self.program
        twin.inputs = self.inputs
        twin.liars = self.liars
        twin.steps = self.steps
        twin.undone = self.undone
        twin.net = self.net.copy()
        return twin
