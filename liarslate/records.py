"""Records of what was delivered, and who lied in them (section 15)."""

from liarslate.calm import check_world
from liarslate.crowds import is_slip
from liarslate.ends import check_stop_lot
from liarslate.errors import BadRecord, Kept
from liarslate.machines import Machine
from liarslate.terms import check_hand, is_hand
from liarslate.texts import all_inputs


def is_row(program, house, value):
    """Whether value is a row of a RECORD."""
    if not isinstance(value, tuple) or len(value) != 3:
        return False
    sender, to, slip = value
    if not is_hand(sender, house[0]) or not is_hand(to, house[0]) or sender == to:
        return False
    return is_slip(slip, house[0], program.rounds)


def is_right_record(program, house, value):
    """Whether any value is a RECORD of a right program and house."""
    return isinstance(value, tuple) and all([is_row(program, house, row) for row in value])


def check_record(program, house, record):
    """Refuses what is no PROGRAM, no HOUSE or no RECORD."""
    check_world(program, house)
    if not is_right_record(program, house, record):
        raise BadRecord(record)


class Follower:
    """A hand's machine, and what it has sent and told by now, as rows tell it."""

    def __init__(self, program, house, hand, value):
        self.hand = hand
        self.machine = Machine(program, house, hand)
        self.can_tell = {}
        self.has_told = {}
        self.note_slips(self.machine.start(value))

    def note_slips(self, slips):
        """From now on the hand can tell these SLIPS to anybody."""
        for slip in slips:
            self.can_tell[slip] = True

    def does(self, row):
        """Whether the hand can do what this row tells of it: if so, it does it."""
        sender, to, slip = row
        if to == self.hand:
            self.note_slips(self.machine.hear(sender, slip))
        if sender != self.hand:
            return True
        if slip not in self.can_tell or (to, slip) in self.has_told:
            return False
        self.has_told[to, slip] = True
        return True


def first_wrong(program, house, record, hand, value):
    """The number of the first row that this hand's machine, begun with this input, can't do, None without."""
    follower = Follower(program, house, hand, value)
    for number, row in enumerate(record):
        if not follower.does(row):
            return number
    return None


def fitting_inputs(program, house, record, hand):
    """The inputs by which this hand keeps to its machine."""
    return [value for value in all_inputs(program) if first_wrong(program, house, record, hand, value) is None]


def keeps(program, house, record, hand):
    """Whether this hand keeps to its machine by some input."""
    for value in all_inputs(program):
        if first_wrong(program, house, record, hand, value) is None:
            return True
    return False


def keepers(program, house, record):
    """The hands that keep to their machines, ascending."""
    return [hand for hand in range(house[0]) if keeps(program, house, record, hand)]


def record(net):
    """The RECORD of a Net's deliveries."""
    return net.rows()


def is_record(program, house, value):
    """Whether any value is a RECORD."""
    check_world(program, house)
    return is_right_record(program, house, value)


def inputs_of(program, house, record, hand):
    """The ascending tuple of the inputs by which this hand keeps to its machine."""
    check_record(program, house, record)
    check_hand(hand, house[0])
    return tuple(fitting_inputs(program, house, record, hand))


def kept(program, house, record):
    """The ascending tuple of the hands that keep to their machines."""
    check_record(program, house, record)
    return tuple(keepers(program, house, record))


def liars_in(program, house, record):
    """The ascending tuple of the hands that don't keep to their machines."""
    check_record(program, house, record)
    honest = keepers(program, house, record)
    return tuple([hand for hand in range(house[0]) if hand not in honest])


def explains(program, house, record, lot):
    """Whether all hands outside this lot keep to their machines."""
    check_record(program, house, record)
    check_stop_lot(lot, house)
    return all([hand in lot or keeps(program, house, record, hand) for hand in range(house[0])])


def first_lie(program, house, record, hand):
    """The number of the first row behind which this hand keeps to its machine no more."""
    check_record(program, house, record)
    check_hand(hand, house[0])
    numbers = [first_wrong(program, house, record, hand, value) for value in all_inputs(program)]
    if None in numbers:
        raise Kept(hand)
    return max(numbers)
