"""Nets: the same program, run by slips among liars (section 8)."""

from liarslate.errors import (
    BadHand, BadInputs, BadLiar, BadLiars, BadLog, BadMany, BadSlip, SlateError,
)
from liarslate.machines import Machine
from liarslate.posts import Post
from liarslate.spreading import KINDS
from liarslate.terms import check_hand, check_house, is_from, is_hand, is_hands, is_integer, is_letter, is_pair
from liarslate.texts import check_program, check_round, is_input


def is_slip(value, n, rounds):
    """Whether value has the shape of a SLIP, of n hands and so many rounds."""
    if not is_pair(value) or not isinstance(value[0], str) or value[0] not in KINDS:
        return False
    return is_letter(value[1], n, rounds)


def are_inputs(program, house, inputs, liars):
    """Whether these are inputs of all hands but the liars."""
    if not isinstance(inputs, tuple) or len(inputs) != house[0]:
        return False
    return all([
        value is None if hand in liars else is_input(program, value) for hand, value in enumerate(inputs)
    ])


def check_net(program, house, inputs, liars):
    """Refuses what no Net can be made of."""
    check_program(program)
    check_house(house)
    n, t = house
    if not is_hands(liars, n) or len(liars) > t:
        raise BadLiars(liars)
    if not are_inputs(program, house, inputs, liars):
        raise BadInputs(inputs)


def honest_hands(net):
    """The honest hands of a Net, ascending."""
    return [hand for hand in range(net.house[0]) if hand not in net.liars]


def check_honest(net, hand):
    """Refuses what is no honest HAND of a Net."""
    if not is_hand(hand, net.house[0]) or hand in net.liars:
        raise BadHand(hand)


class Net:
    """A program among liars: its honest hands, and the slips under way."""

    def __init__(self, program, house, inputs, liars):
        check_net(program, house, inputs, liars)
        self.program = program
        self.house = house
        self.inputs = inputs
        self.liars = liars
        self._post = Post()
        self._log = []
        self._use_times = {}
        self._lot_times = {}
        self._machines = {hand: Machine(program, house, hand) for hand in honest_hands(self)}
        for hand in honest_hands(self):
            self._use_times[hand] = []
            self._lot_times[hand] = []
            self._put_to_all(hand, self._machines[hand].start(inputs[hand]))
            self._note_times(hand)

    def __eq__(self, other):
        return (
            isinstance(other, Net)
            and self.program == other.program
            and self.house == other.house
            and self.inputs == other.inputs
            and self.liars == other.liars
            and self._log == other._log
        )

    def __len__(self):
        return len(self._log)

    @property
    def under_way(self):
        """The ascending tuple of (number, from, to, SLIP)."""
        slips = self._post.slips
        return tuple([(number, *slips[number]) for number in sorted(slips)])

    @property
    def says(self):
        """What each hand said, None for liars."""
        ends = [None] * self.house[0]
        for hand, machine in self._machines.items():
            ends[hand] = machine.end
        return tuple(ends)

    @property
    def sent(self):
        """How many slips were ever put."""
        return self._post.many

    @property
    def log(self):
        """What was done."""
        return tuple(self._log)

    def _put_to_all(self, sender, slips):
        for slip in slips:
            for to in self._machines:
                if to != sender:
                    self._post.put((sender, to, slip))

    def _note_times(self, hand):
        """Keeps how many deeds stand for what this hand has newly used and heard."""
        machine = self._machines[hand]
        uses, lots = self._use_times[hand], self._lot_times[hand]
        uses.extend([len(self._log)] * (len(machine.used_row) - len(uses)))
        lots.extend([len(self._log)] * (len(machine.lot_row) - len(lots)))

    def _machine(self, hand):
        check_honest(self, hand)
        return self._machines[hand]

    def deliver(self, number):
        """The slip with this number is heard."""
        sender, to, slip = self._post.pull(number)
        self._log.append(("deliver", number))
        self._put_to_all(to, self._machines[to].hear(sender, slip))
        self._note_times(to)

    def lie(self, liar, to, slip):
        """Puts such a slip of a liar: its number."""
        if not is_integer(liar) or liar not in self.liars:
            raise BadLiar(liar)
        check_honest(self, to)
        if not is_slip(slip, self.house[0], self.program.rounds):
            raise BadSlip(slip)
        self._log.append(("lie", liar, to, slip))
        return self._post.put((liar, to, slip))

    def rest(self):
        """Delivers slips, the least number first, until none is under way: how many."""
        many = 0
        while self._post.slips:
            self.deliver(self._post.least())
            many += 1
        return many

    def taken(self, hand):
        """The LETTERS that an honest hand took, ascending by hands, then rounds."""
        ears = self._machine(hand).ears
        return tuple([ears[place].took for place in sorted(ears) if ears[place].took is not None])

    def used(self, hand):
        """The LETTERS that an honest hand used, in sequence."""
        return tuple(self._machine(hand).used_row)

    def lots(self, hand):
        """The LOTS that an honest hand heard."""
        return tuple(self._machine(hand).lot_row)

    def cells(self, hand):
        """The cells of an honest hand now."""
        return self._machine(hand).cells_now

    def at_round(self, hand):
        """How many letters an honest hand sent."""
        return self._machine(hand).newest

    def heard(self, hand, other, at):
        """What counts of what an honest hand heard of a letter: (said, echoes, promises)."""
        machine = self._machine(hand)
        check_hand(other, self.house[0])
        check_round(self.program, at)
        if (other, at) not in machine.ears:
            return (None, (), ())
        ear = machine.ears[other, at]
        return (ear.told, tuple(sorted(ear.echo_from.items())), tuple(sorted(ear.promise_from.items())))

    def times(self, hand):
        """How many deeds stood when an honest hand used each of its letters, and heard each of its lots."""
        check_honest(self, hand)
        return (tuple(self._use_times[hand]), tuple(self._lot_times[hand]))

    def copy(self):
        """An equal Net by itself."""
        return replayed(self.program, self.house, self.inputs, self.liars, self.log)


def is_deed(deed):
    """Whether it has the form of a deed as logs have them."""
    if not isinstance(deed, tuple):
        return False
    return len(deed) == 2 and deed[0] == "deliver" or len(deed) == 4 and deed[0] == "lie"


def do_deed(net, deed):
    """Does a deed that has the right form."""
    if deed[0] == "deliver":
        net.deliver(deed[1])
    else:
        net.lie(deed[1], deed[2], deed[3])


def replayed(program, house, inputs, liars, log):
    """The Net behind these deeds."""
    net = Net(program, house, inputs, liars)
    if not isinstance(log, tuple):
        raise BadLog(None)
    for number, deed in enumerate(log):
        if not is_deed(deed):
            raise BadLog(number)
        try:
            do_deed(net, deed)
        except SlateError:
            raise BadLog(number) from None
    return net


def back(net, many):
    """A Net like this one that has not done its last so many deeds."""
    if not is_from(many, 1, len(net)):
        raise BadMany(many)
    return replayed(net.program, net.house, net.inputs, net.liars, net.log[: len(net) - many])
