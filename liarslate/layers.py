"""Layers off: a net that lacks one, and what falls without it (section 12)."""

from liarslate.calm import check_world
from liarslate.crowds import check_net, Crowd, honest_hands, says_of, slips_of
from liarslate.errors import BadLayer, BadSentence, SlateError
from liarslate.falling import lead_to_fall
from liarslate.looseness import CLAIMS_OFF, ECHOES_OFF, LAYERS, LooseMachine
from liarslate.machines import Shelf
from liarslate.nets import do_deed, is_deed
from liarslate.terms import check_house

SENTENCES_OF_NETS = ("all", "on", "one", "run")
REST = ("rest",)


def check_layer(layer):
    """Refuses what is no word for a layer."""
    if not isinstance(layer, str) or layer not in LAYERS:
        raise BadLayer(layer)


class Loose:
    """A Net with one layer off."""

    def __init__(self, program, house, inputs, liars, layer):
        check_net(program, house, inputs, liars)
        check_layer(layer)
        self.program = program
        self.house = house
        self.inputs = inputs
        self.liars = liars
        self.layer = layer
        honest = [hand for hand in range(house[0]) if hand not in liars]
        machines = {hand: LooseMachine(program, house, hand, layer) for hand in honest}
        self._crowd = Crowd(program, house, liars, machines)
        self._crowd.start(inputs)

    def __eq__(self, other):
        return (
            isinstance(other, Loose)
            and self.program == other.program
            and self.house == other.house
            and self.inputs == other.inputs
            and self.liars == other.liars
            and self.layer == other.layer
            and self._crowd.done == other._crowd.done
        )

    def __len__(self):
        return len(self._crowd.done)

    @property
    def under_way(self):
        """The ascending tuple of (number, from, to, SLIP)."""
        return slips_of(self._crowd)

    @property
    def says(self):
        """What each hand said, None for liars."""
        return says_of(self._crowd)

    @property
    def sent(self):
        """How many slips were ever put."""
        return self._crowd.post.many

    @property
    def log(self):
        """What was done."""
        return tuple(self._crowd.done)

    def deliver(self, number):
        """The slip with this number is heard."""
        self._crowd.deliver(number)

    def lie(self, liar, to, slip):
        """Puts such a slip of a liar: its number."""
        return self._crowd.lie(liar, to, slip)

    def rest(self):
        """Delivers slips, the least number first, until none is under way: how many."""
        return self._crowd.rest()

    def taken(self, hand):
        """The LETTERS that an honest hand took, ascending by hands, then rounds."""
        return self._crowd.taken(hand)

    def used(self, hand):
        """The LETTERS that an honest hand used, in sequence."""
        return tuple(self._crowd.machine_of(hand).used_row)

    def lots(self, hand):
        """The LOTS that an honest hand heard."""
        return tuple(self._crowd.machine_of(hand).lot_row)

    def cells(self, hand):
        """The cells of an honest hand now."""
        return self._crowd.machine_of(hand).cells_now

    def at_round(self, hand):
        """How many letters an honest hand sent."""
        return self._crowd.machine_of(hand).newest

    def heard(self, hand, other, at):
        """What counts of what an honest hand heard of a letter: (said, echoes, promises)."""
        return self._crowd.heard(hand, other, at)

    def copy(self):
        """An equal Loose by itself."""
        twin = Loose(self.program, self.house, self.inputs, self.liars, self.layer)
        for deed in self.log:
            do_deed(twin, deed)
        return twin


def is_one_broken(loose):
    """Whether two honest hands have taken unlike LETTERS of one hand and round."""
    found = {}
    for hand in honest_hands(loose):
        for letter in loose.taken(hand):
            if found.setdefault((letter[0], letter[1]), letter) != letter:
                return True
    return False


def is_all_broken(loose):
    """Whether an honest hand has taken what another one has not."""
    taken = [loose.taken(hand) for hand in honest_hands(loose)]
    return taken != [taken[0]] * len(taken)


def is_on_broken(loose):
    """Whether an honest hand has not said."""
    return None in [loose.says[hand] for hand in honest_hands(loose)]


def is_run_broken(loose):
    """Whether an honest hand has used a letter that does not follow from others which it used."""
    return not all([is_right_run(loose, loose.used(hand)) for hand in honest_hands(loose)])


def is_right_run(loose, used):
    """Whether each of these letters follows from others of them."""
    shelf = Shelf(loose.program, loose.house)
    for at in range(1, loose.program.rounds + 1):
        for letter in used:
            if letter[1] == at:
                if not shelf.fits(letter):
                    return False
                shelf.put(letter)
    return True


def fallen(loose):
    """The ascending tuple of the sentences that are broken as a Loose stands."""
    found = {"all": False, "on": False, "one": is_one_broken(loose), "run": False}
    if not loose.under_way:
        found["all"] = is_all_broken(loose)
        found["on"] = is_on_broken(loose)
        found["run"] = is_run_broken(loose)
    return tuple([sentence for sentence in SENTENCES_OF_NETS if found[sentence]])


def falling(house, layer):
    """What falls tells, of a right house and layer."""
    n, t = house
    if t == 0:
        return ()
    if layer == CLAIMS_OFF:
        return ("run",)
    # With echoes off two hands can be brought to take unlike letters if two lots of promises that are enough, each with
    # all liars in it, fit beside one another.
    if layer == ECHOES_OFF and 2 * (2 * t + 1) <= n + t:
        return ("all", "on", "one")
    return ("all", "on")


def falls(house, layer):
    """The ascending tuple of the sentences that are broken at some moment of some Loose with this layer."""
    check_house(house)
    check_layer(layer)
    return falling(house, layer)


def check_fall(program, house, layer, sentence):
    """Refuses what can't be asked of a fall."""
    check_world(program, house)
    check_layer(layer)
    if not isinstance(sentence, str) or sentence not in SENTENCES_OF_NETS:
        raise BadSentence(sentence)


def can_fall(program, house, layer, sentence):
    """Whether some Loose of this program breaks this sentence: one can wait for ever only from round 2 on."""
    return sentence in falling(house, layer) and (sentence != "on" or program.rounds > 1)


def fall(program, house, layer, sentence):
    """(inputs, liars, deeds) behind which this sentence is broken, None if no Loose of this program breaks it."""
    check_fall(program, house, layer, sentence)
    if not can_fall(program, house, layer, sentence):
        return None
    n, t = house
    inputs = (program.inputs[0],) * (n - t) + (None,) * t
    loose = Loose(program, house, inputs, tuple(range(n - t, n)), layer)
    lead_to_fall(loose, sentence)
    return (inputs, loose.liars, loose.log if sentence == "one" else loose.log + (REST,))


def led_loose(program, house, layer, value):
    """The Loose behind (inputs, liars, deeds), None if no such can be led by them."""
    if not isinstance(value, tuple) or len(value) != 3 or not isinstance(value[2], tuple):
        return None
    try:
        loose = Loose(program, house, value[0], value[1], layer)
        for deed in value[2]:
            if is_deed(deed):
                do_deed(loose, deed)
            elif isinstance(deed, tuple) and deed == REST:
                loose.rest()
            else:
                return None
    except SlateError:
        return None
    return loose


def shows_fall(program, house, layer, sentence, value):
    """Whether any value is right as what fall tells."""
    check_fall(program, house, layer, sentence)
    if value is None:
        return not can_fall(program, house, layer, sentence)
    loose = led_loose(program, house, layer, value)
    return loose is not None and sentence in fallen(loose)
