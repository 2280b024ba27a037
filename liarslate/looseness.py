"""One honest hand of a net with one layer off (section 12)."""

from liarslate.machines import Machine, Shelf
from liarslate.spreading import Ear, votes

CLAIMS_OFF = "claims"
PROMISES_OFF = "promises"
ECHOES_OFF = "echoes"
LAYERS = (CLAIMS_OFF, PROMISES_OFF, ECHOES_OFF)


class EchoEar(Ear):
    """What a hand has of one letter where nobody promises."""

    def hear(self, kind, sender, value):
        """Keeps what counts, and does what is due: what it sends."""
        return [] if kind == "promise" else super().hear(kind, sender, value)

    def due_promise(self, value):
        """Promises nothing."""
        return []

    def do_due_take(self, value):
        """Takes the value, if enough hands echoed it."""
        if votes(self.echo_from, value) >= self.counts[0] and self.took is None:
            self.took = value


class PromiseEar(Ear):
    """What a hand has of one letter where nobody echoes."""

    def hear(self, kind, sender, value):
        """Keeps what counts, and does what is due: what it sends."""
        return [] if kind == "echo" else super().hear(kind, sender, value)

    def due_echo(self):
        """Echoes nothing."""
        return []

    def due_promise(self, value):
        """Promises the value, if its hand said it first, or enough hands promised it: what it sends.

        What the hand said is promised as soon as it is heard, if anything still can be: then it is the value.
        """
        enough = self.told is not None or votes(self.promise_from, value) >= self.counts[1]
        return self.promise(value) if enough and self.promised is None else []


class OpenShelf(Shelf):
    """Letters of which each one fits if those of its hand's rounds ahead are held."""

    def fits(self, letter):
        """Whether the letters of this hand's rounds ahead are held."""
        return letter[1] == 1 or (letter[0], letter[1] - 1) in self.held

    def put(self, letter):
        """Holds a letter that fits."""
        self.held[letter[0], letter[1]] = letter


class LooseMachine(Machine):
    """One honest hand with one layer off."""

    def __init__(self, program, house, hand, layer):
        super().__init__(program, house, hand)
        self.layer = layer
        if layer == CLAIMS_OFF:
            self.shelf = OpenShelf(program, house)

    def ear_of(self, hand, at):
        """What it has of the letter of this hand and round."""
        if (hand, at) not in self.ears:
            self.ears[hand, at] = self.new_ear(hand)
        return self.ears[hand, at]

    def new_ear(self, hand):
        """What it has of a letter of this hand ahead of hearing anything of it."""
        if self.layer == PROMISES_OFF:
            return EchoEar(self.hand, self.counts, hand)
        if self.layer == ECHOES_OFF:
            return PromiseEar(self.hand, self.counts, hand)
        return Ear(self.hand, self.counts, hand)
