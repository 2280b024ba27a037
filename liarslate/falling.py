"""How liars bring sentences to fall in a net with one layer off (section 12).

The liars are the last hands, as many as can be. Each lead leaves something to be delivered: behind rest, and for "one"
already ahead of it, the sentence is broken.
"""

from liarslate.crowds import honest_hands
from liarslate.looseness import CLAIMS_OFF, PROMISES_OFF
from liarslate.machines import counts_in
from liarslate.texts import first_cells, value_sent


def right_letter(loose):
    """A letter of round 1 of the first liar by which it does what the program tells."""
    liar, value = loose.liars[0], loose.program.inputs[0]
    cells = first_cells(loose.program, value)
    return (liar, 1, value_sent(loose.program, loose.house, liar, 1, cells), value)


def wrong_letter(loose, number):
    """Letters of round 1 of the first liar that claim no input, an unlike one for each number of a hand."""
    return (loose.liars[0], 1, 0, (number,))


def tell(loose, hands, letter):
    """The letter's hand says it to these hands, who hear it at once."""
    for hand in hands:
        loose.deliver(loose.lie(letter[0], hand, ("said", letter)))


def bring_to_take(loose, hand, kind, letter):
    """This hand hears who echoed or promised the letter, and then all liars do."""
    for number, _, to, slip in list(loose.under_way):
        if to == hand and slip == (kind, letter):
            loose.deliver(number)
    for liar in loose.liars:
        loose.deliver(loose.lie(liar, hand, (kind, letter)))


def lead_claims(loose):
    """All hear a letter that no input tells the liar to send."""
    tell(loose, honest_hands(loose), wrong_letter(loose, 0))


def lead_promises(loose):
    """The first hand alone hears enough echoes of a letter to take it, and its own next letter leans on it."""
    honest = honest_hands(loose)
    letter = right_letter(loose)
    tell(loose, honest[: counts_in(loose.house)[0] - len(loose.liars)], letter)
    bring_to_take(loose, honest[0], "echo", letter)


def lead_echoes(loose, sentence):
    """The first hand alone hears enough promises of a letter to take it: all others promise other letters.

    None of these others comes to be taken, but for "one" by one more hand.
    """
    honest = honest_hands(loose)
    letter = right_letter(loose)
    few = len(loose.liars) + 1
    size = few if sentence == "one" else 2 * len(loose.liars)
    tell(loose, honest[:few], letter)
    for at in range(few, len(honest), size):
        tell(loose, honest[at : at + size], wrong_letter(loose, at))
    bring_to_take(loose, honest[0], "promise", letter)
    if sentence == "one":
        bring_to_take(loose, honest[few], "promise", wrong_letter(loose, few))


def lead_to_fall(loose, sentence):
    """Brings a sentence that can fall to do so."""
    if loose.layer == CLAIMS_OFF:
        lead_claims(loose)
    elif loose.layer == PROMISES_OFF:
        lead_promises(loose)
    else:
        lead_echoes(loose, sentence)
