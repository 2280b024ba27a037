"""Nets: the same program, run by slips among liars (section 8)."""

from liarslate.crowds import check_net, Crowd, says_of, slips_of
from liarslate.errors import BadLog, BadMany, SlateError
from liarslate.machines import Machine
from liarslate.terms import is_from


class Net:
    """A program among liars: its honest hands, and the slips under way."""

    def __init__(self, program, house, inputs, liars):
        check_net(program, house, inputs, liars)
        self.program = program
        self.house = house
        self.inputs = inputs
        self.liars = liars
        machines = {hand: Machine(program, house, hand) for hand in range(house[0]) if hand not in liars}
        self._crowd = Crowd(program, house, liars, machines)
        self._crowd.start(inputs)

    def __eq__(self, other):
        return (
            isinstance(other, Net)
            and self.program == other.program
            and self.house == other.house
            and self.inputs == other.inputs
            and self.liars == other.liars
            and self._crowd.done == other._crowd.done
        )

    def __len__(self):
        return len(self._crowd.done)

    @property
    def under_way(self):
        """The ascending tuple of (number, from, to, SLIP)."""
        return slips_of(self._crowd)

    @property
    def says(self):
        """What each hand said, None for liars."""
        return says_of(self._crowd)

    @property
    def sent(self):
        """How many slips were ever put."""
        return self._crowd.post.many

    @property
    def log(self):
        """What was done."""
        return tuple(self._crowd.done)

    def deliver(self, number):
        """The slip with this number is heard."""
        self._crowd.deliver(number)

    def lie(self, liar, to, slip):
        """Puts such a slip of a liar: its number."""
        return self._crowd.lie(liar, to, slip)

    def rest(self):
        """Delivers slips, the least number first, until none is under way: how many."""
        return self._crowd.rest()

    def taken(self, hand):
        """The LETTERS that an honest hand took, ascending by hands, then rounds."""
        return self._crowd.taken(hand)

    def used(self, hand):
        """The LETTERS that an honest hand used, in sequence."""
        return tuple(self._crowd.machine_of(hand).used_row)

    def lots(self, hand):
        """The LOTS that an honest hand heard."""
        return tuple(self._crowd.machine_of(hand).lot_row)

    def cells(self, hand):
        """The cells of an honest hand now."""
        return self._crowd.machine_of(hand).cells_now

    def at_round(self, hand):
        """How many letters an honest hand sent."""
        return self._crowd.machine_of(hand).newest

    def heard(self, hand, other, at):
        """What counts of what an honest hand heard of a letter: (said, echoes, promises)."""
        return self._crowd.heard(hand, other, at)

    def times(self, hand):
        """How many deeds stood when an honest hand used each of its letters, and heard each of its lots."""
        self._crowd.machine_of(hand)
        return (tuple(self._crowd.use_times[hand]), tuple(self._crowd.lot_times[hand]))

    def rows(self):
        """What was delivered, in sequence: (from, to, SLIP)."""
        return tuple(self._crowd.delivered)

    def copy(self):
        """An equal Net by itself."""
        return replayed(self.program, self.house, self.inputs, self.liars, self.log)


def is_deed(deed):
    """Whether it has the form of a deed as logs have them."""
    if not isinstance(deed, tuple):
        return False
    return len(deed) == 2 and deed[0] == "deliver" or len(deed) == 4 and deed[0] == "lie"


def do_deed(net, deed):
    """Does a deed that has the right form."""
    if deed[0] == "deliver":
        net.deliver(deed[1])
    else:
        net.lie(deed[1], deed[2], deed[3])


def replayed(program, house, inputs, liars, log):
    """The Net behind these deeds."""
    net = Net(program, house, inputs, liars)
    if not isinstance(log, tuple):
        raise BadLog(None)
    for number, deed in enumerate(log):
        if not is_deed(deed):
            raise BadLog(number)
        try:
            do_deed(net, deed)
        except SlateError:
            raise BadLog(number) from None
    return net


def back(net, many):
    """A Net like this one that has not done its last so many deeds."""
    if not is_from(many, 1, len(net)):
        raise BadMany(many)
    return replayed(net.program, net.house, net.inputs, net.liars, net.log[: len(net) - many])
