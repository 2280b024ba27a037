"""What an honest hand does with the letters of all hands (section 8): it takes, uses, hears, and goes on."""

from liarslate.spreading import Ear, usual
from liarslate.terms import is_lot
from liarslate.texts import cells_later, first_cells, is_input, value_said, value_sent

COUNTS_ALONE = (1, 1, 1)


def counts_in(house):
    """The COUNTS by which letters are spread in a HOUSE."""
    n, t = house
    return COUNTS_ALONE if n == 1 else usual(n, t)


class Shelf:
    """Letters that fit together: each one follows from those of the round ahead which it claims."""

    def __init__(self, program, house):
        self.program = program
        self.house = house
        self.held = {}
        self.sent_by = {}

    def cells_for(self, letter):
        """The CELLS by which its hand sends in its round if it heard what it claims, None if it can't have heard it."""
        hand, at, _, claim = letter
        if at == 1:
            return first_cells(self.program, claim) if is_input(self.program, claim) else None
        if not is_lot(claim, self.house) or hand not in claim:
            return None
        if not all([(other, at - 1) in self.held for other in claim]):
            return None
        heard = tuple([(other, self.held[other, at - 1][2]) for other in claim])
        return cells_later(self.program, self.house, hand, at - 1, self.sent_by[hand, at - 1], heard)

    def fits(self, letter):
        """Whether its claim follows from what is held, and its value from its claim."""
        cells = self.cells_for(letter)
        if cells is None:
            return False
        return value_sent(self.program, self.house, letter[0], letter[1], cells) == letter[2]

    def put(self, letter):
        """Holds a letter that fits."""
        place = (letter[0], letter[1])
        self.sent_by[place] = self.cells_for(letter)
        self.held[place] = letter


class Machine:
    """One honest hand: what it has of all letters, and how far it is with the program."""

    def __init__(self, program, house, hand):
        self.program = program
        self.house = house
        self.hand = hand
        self.counts = counts_in(house)
        self.ears = {}
        self.unused = []
        self.shelf = Shelf(program, house)
        self.used_row = []
        self.lot_row = []
        self.cells_now = ()
        self.newest = 0
        self.end = None

    def start(self, value):
        """Begins with this input: the SLIPS that it sends to all others, in sequence."""
        self.cells_now = first_cells(self.program, value)
        sends = self.send(1, value)
        sends.extend(self.use_all())
        return sends

    def hear(self, sender, slip):
        """Hears a SLIP: the SLIPS that it sends to all others because of it, in sequence."""
        sends = self.spread(sender, slip)
        sends.extend(self.use_all())
        return sends

    def ear_of(self, hand, at):
        """What it has of the letter of this hand and round."""
        if (hand, at) not in self.ears:
            self.ears[hand, at] = Ear(self.hand, self.counts, hand)
        return self.ears[hand, at]

    def spread(self, sender, slip):
        """Does what spreading tells: the SLIPS that it sends."""
        kind, letter = slip
        ear = self.ear_of(letter[0], letter[1])
        was_taken = ear.took is not None
        sends = ear.hear(kind, sender, letter)
        if not was_taken and ear.took is not None:
            self.unused.append(ear.took)
        return sends

    def send(self, at, claim):
        """Sends its letter of round at, and hears it itself: the SLIPS that it sends."""
        self.newest = at
        letter = (self.hand, at, value_sent(self.program, self.house, self.hand, at, self.cells_now), claim)
        slip = ("said", letter)
        return [slip, *self.spread(self.hand, slip)]

    def next_usable(self):
        """The letter that it took first of those that it can use now, None without."""
        for letter in self.unused:
            if self.shelf.fits(letter):
                return letter
        return None

    def use_all(self):
        """Uses taken letters as long as some can be used, and goes on with each: the SLIPS that it sends."""
        sends = []
        letter = self.next_usable()
        while letter is not None:
            self.unused.remove(letter)
            self.shelf.put(letter)
            self.used_row.append(letter)
            sends.extend(self.go_on())
            letter = self.next_usable()
        return sends

    def next_lot(self):
        """The LOT that it can hear now, None without."""
        n, t = self.house
        if self.end is not None or (self.hand, self.newest) not in self.shelf.held:
            return None
        others = [letter[0] for letter in self.used_row if letter[1] == self.newest and letter[0] != self.hand]
        if len(others) < n - t - 1:
            return None
        return tuple(sorted([self.hand, *others[: n - t - 1]]))

    def go_on(self):
        """Hears LOTS as long as it can: the SLIPS that it sends."""
        sends = []
        lot = self.next_lot()
        while lot is not None:
            sends.extend(self.hear_lot(lot))
            lot = self.next_lot()
        return sends

    def hear_lot(self, lot):
        """Hears this LOT in its newest round, and sends or says what follows: the SLIPS that it sends."""
        at = self.newest
        heard = tuple([(other, self.shelf.held[other, at][2]) for other in lot])
        self.cells_now = cells_later(self.program, self.house, self.hand, at, self.cells_now, heard)
        self.lot_row.append(lot)
        if at < self.program.rounds:
            return self.send(at + 1, lot)
        self.end = value_said(self.program, self.house, self.hand, self.cells_now)
        return []
