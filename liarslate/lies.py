"""Lies: what liars can still bring about in a net as it stands, and deeds that do it (section 14).

Deeds are told as the log of a net has them.
"""

from liarslate.calm import check_run, check_world, letters, lots_open, with_entry
from liarslate.crowds import honest_hands
from liarslate.errors import BadLetter, BadLiar, BadLot
from liarslate.machines import counts_in
from liarslate.terms import check_hand, is_integer, is_letter
from liarslate.texts import all_inputs
from liarslate.told import many_told, told_all


def check_liar(net, liar):
    """Refuses what is none of a Net's liars."""
    if not is_integer(liar) or liar not in net.liars:
        raise BadLiar(liar)


def check_shape(net, letter):
    """Refuses what has not the shape of a LETTER."""
    if not is_letter(letter, net.house[0], net.program.rounds):
        raise BadLetter(letter)


def check_letter_of(net, hands, letter):
    """Refuses what is no LETTER of one of these hands."""
    check_shape(net, letter)
    if letter[0] not in hands:
        raise BadLetter(letter)


def check_honest_lot(net, hands):
    """Refuses what is no ascending tuple of honest HANDS."""
    honest = honest_hands(net)
    if not isinstance(hands, tuple) or not all([is_integer(hand) and hand in honest for hand in hands]):
        raise BadLot(hands)
    if not all([one < other for one, other in zip(hands, hands[1:])]):
        raise BadLot(hands)


class Chances:
    """What can still be told of one letter of a liar: by honest hands, what each one heard and did so far.

    More votes for a letter never keep anybody from promising or taking it: so all that can be told of it is told at
    once, as far as nothing else was told ahead of it.
    """

    def __init__(self, net, letter):
        self.letter = letter
        self.liars = net.liars
        self.counts = counts_in(net.house)
        self.kept = {hand: net.heard(hand, letter[0], letter[1]) for hand in honest_hands(net)}
        self.echoers = [hand for hand in self.kept if self.is_free(hand, 0)]
        self.promisers = self.all_promisers()

    def own_vote(self, hand, at):
        """What an honest hand itself echoed (0) or promised (1), None for nothing."""
        return dict(self.kept[hand][1 + at]).get(hand)

    def is_free(self, hand, at):
        """Whether an honest hand itself echoed (0) or promised (1) nothing yet, or the letter."""
        return self.own_vote(hand, at) in (None, self.letter)

    def lies_to(self, hand, at):
        """How many liars' echoes (0) or promises (1) of the letter an honest hand heard or can hear."""
        heard = dict(self.kept[hand][1 + at])
        return len([liar for liar in self.liars if heard.get(liar, self.letter) == self.letter])

    def can_promise(self, hand, promisers):
        """Whether an honest hand can be brought to promise the letter if these promise it."""
        e, r, _ = self.counts
        enough = len(self.echoers) + self.lies_to(hand, 0) >= e or len(promisers) + self.lies_to(hand, 1) >= r
        return enough and self.is_free(hand, 1)

    def all_promisers(self):
        """The honest hands that can be brought to promise the letter, each one helping the others."""
        found = []
        more = [hand for hand in self.kept if self.can_promise(hand, found)]
        while len(more) > len(found):
            found = more
            more = [hand for hand in self.kept if self.can_promise(hand, found)]
        return found

    def can_take(self, hand):
        """Whether an honest hand hears enough promises of the letter, or can be brought to."""
        return len(self.promisers) + self.lies_to(hand, 1) >= self.counts[2]


def takeable(net, letter):
    """Whether an honest hand has taken a liar's letter, or can still be brought to.

    By the usual counts honest hands never promise unlike letters of one hand and round: so of a letter that can't be
    taken any more, as another one was, not enough promises can come either.
    """
    check_letter_of(net, net.liars, letter)
    chances = Chances(net, letter)
    return any([chances.can_take(hand) for hand in honest_hands(net)])


def passing(net, liar):
    """The ascending tuple of all LETTERS of a liar's next round that would come to be used."""
    check_liar(net, liar)
    calm = told_all(net)
    at = many_told(calm[liar]) + 1
    if at > net.program.rounds:
        return ()
    if at == 1:
        entries = [(value, ()) for value in all_inputs(net.program)]
    else:
        value, lots = calm[liar]
        entries = [(value, lots + (lot,)) for lot in lots_open(net.program, net.house, calm, liar)]
    runs = [with_entry(calm, liar, entry) for entry in entries]
    return tuple(sorted([letters_of(net.program, net.house, run, liar)[-1] for run in runs]))


def letters_of(program, house, calm, hand):
    """The LETTERS of this hand in a right CALM, by rounds."""
    return tuple([letter for letter in letters(program, house, calm) if letter[0] == hand])


def told_to(liar, hands, kind, letter):
    """The deeds by which a liar tells these hands a letter."""
    return tuple([("lie", liar, hand, (kind, letter)) for hand in hands])


def said_to(net, liar, hands, letter):
    """The deeds by which a liar says its letter to these hands."""
    check_liar(net, liar)
    check_honest_lot(net, hands)
    check_letter_of(net, (liar,), letter)
    return told_to(liar, hands, "said", letter)


def two_faced(net, liar, one, other, side):
    """The deeds by which a liar says one letter to the hands of a side, and another one to all others."""
    check_liar(net, liar)
    check_letter_of(net, (liar,), one)
    check_letter_of(net, (liar,), other)
    check_honest_lot(net, side)
    return tuple([("lie", liar, hand, ("said", one if hand in side else other)) for hand in honest_hands(net)])


def backed(net, liar, letter):
    """The deeds by which a liar echoes a letter to all honest hands, and then promises it to them."""
    check_liar(net, liar)
    check_shape(net, letter)
    honest = honest_hands(net)
    return told_to(liar, honest, "echo", letter) + told_to(liar, honest, "promise", letter)


def followed(program, house, calm, hand):
    """The LETTERS of this hand in a CALM, by rounds."""
    check_world(program, house)
    check_run(program, house, calm)
    check_hand(hand, house[0])
    return letters_of(program, house, calm, hand)
