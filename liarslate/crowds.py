"""Crowds: the honest hands of a net, the slips under way to them, and what was done (section 8)."""

from liarslate.errors import BadHand, BadInputs, BadLiar, BadLiars, BadSlip
from liarslate.posts import Post
from liarslate.spreading import KINDS
from liarslate.terms import check_hand, check_house, is_hand, is_hands, is_integer, is_letter, is_pair
from liarslate.texts import check_program, check_round, is_input


def is_slip(value, n, rounds):
    """Whether value has the shape of a SLIP, of n hands and so many rounds."""
    if not is_pair(value) or not isinstance(value[0], str) or value[0] not in KINDS:
        return False
    return is_letter(value[1], n, rounds)


def are_inputs(program, house, inputs, liars):
    """Whether these are inputs of all hands but the liars."""
    if not isinstance(inputs, tuple) or len(inputs) != house[0]:
        return False
    return all([
        value is None if hand in liars else is_input(program, value) for hand, value in enumerate(inputs)
    ])


def check_net(program, house, inputs, liars):
    """Refuses what no Net can be made of."""
    check_program(program)
    check_house(house)
    n, t = house
    if not is_hands(liars, n) or len(liars) > t:
        raise BadLiars(liars)
    if not are_inputs(program, house, inputs, liars):
        raise BadInputs(inputs)


def honest_hands(net):
    """The honest hands of a Net, ascending."""
    return [hand for hand in range(net.house[0]) if hand not in net.liars]


def check_honest(net, hand):
    """Refuses what is no honest HAND of a Net."""
    if not is_hand(hand, net.house[0]) or hand in net.liars:
        raise BadHand(hand)


class Crowd:
    """The machines of honest hands, by ascending hands, and what they send one another."""

    def __init__(self, program, house, liars, machines):
        self.program = program
        self.house = house
        self.liars = liars
        self.machines = machines
        self.post = Post()
        self.done = []
        self.delivered = []
        self.use_times = {hand: [] for hand in machines}
        self.lot_times = {hand: [] for hand in machines}

    def start(self, inputs):
        """All hands, ascending, send their letters of round 1."""
        for hand, machine in self.machines.items():
            self.put_to_all(hand, machine.start(inputs[hand]))
            self.note_times(hand)

    def put_to_all(self, sender, slips):
        """Puts these SLIPS to each other honest hand."""
        for slip in slips:
            for to in self.machines:
                if to != sender:
                    self.post.put((sender, to, slip))

    def note_times(self, hand):
        """Keeps how many deeds stand for what this hand has newly used and heard."""
        machine = self.machines[hand]
        uses, lots = self.use_times[hand], self.lot_times[hand]
        uses.extend([len(self.done)] * (len(machine.used_row) - len(uses)))
        lots.extend([len(self.done)] * (len(machine.lot_row) - len(lots)))

    def machine_of(self, hand):
        """The machine of an honest hand."""
        check_honest(self, hand)
        return self.machines[hand]

    def deliver(self, number):
        """The slip with this number is heard."""
        sender, to, slip = self.post.pull(number)
        self.done.append(("deliver", number))
        self.delivered.append((sender, to, slip))
        self.put_to_all(to, self.machines[to].hear(sender, slip))
        self.note_times(to)

    def lie(self, liar, to, slip):
        """Puts such a slip of a liar: its number."""
        if not is_integer(liar) or liar not in self.liars:
            raise BadLiar(liar)
        check_honest(self, to)
        if not is_slip(slip, self.house[0], self.program.rounds):
            raise BadSlip(slip)
        self.done.append(("lie", liar, to, slip))
        return self.post.put((liar, to, slip))

    def rest(self):
        """Delivers slips, the least number first, until none is under way: how many."""
        many = 0
        while self.post.slips:
            self.deliver(self.post.least())
            many += 1
        return many

    def taken(self, hand):
        """The LETTERS that an honest hand took, ascending by hands, then rounds."""
        ears = self.machine_of(hand).ears
        return tuple([ears[place].took for place in sorted(ears) if ears[place].took is not None])

    def heard(self, hand, other, at):
        """What counts of what an honest hand heard of a letter: (said, echoes, promises)."""
        machine = self.machine_of(hand)
        check_hand(other, self.house[0])
        check_round(self.program, at)
        if (other, at) not in machine.ears:
            return (None, (), ())
        ear = machine.ears[other, at]
        return (ear.told, tuple(sorted(ear.echo_from.items())), tuple(sorted(ear.promise_from.items())))


def slips_of(crowd):
    """The ascending tuple of (number, from, to, SLIP) under way."""
    slips = crowd.post.slips
    return tuple([(number, *slips[number]) for number in sorted(slips)])


def says_of(crowd):
    """What each hand said, None for liars."""
    ends = [None] * crowd.house[0]
    for hand, machine in crowd.machines.items():
        ends[hand] = machine.end
    return tuple(ends)
