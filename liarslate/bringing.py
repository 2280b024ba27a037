"""How a net is brought into a calm run, whatever hands of a stop lot did in it (section 11).

The liars say what the program tells, and fall silent where the run has nothing more of them.
"""

from liarslate.calm import letters
from liarslate.crowds import honest_hands
from liarslate.nets import Net


def carry(net, at, kinds, hands, senders):
    """Delivers all slips of these kinds to these hands about what the senders sent in round at, until there are none.

    What hands put meanwhile is delivered, too, if it is such.
    """
    wanted = [0]
    while wanted:
        wanted = [
            number for number, _, to, (kind, letter) in net.under_way
            if letter[1] == at and kind in kinds and to in hands and letter[0] in senders
        ]
        for number in wanted:
            net.deliver(number)


def bring_round(net, calm, at, sent):
    """Leads the letters that were sent in round at so that each honest hand hears its lot of this round.

    They are led to where all hands have promised all of them. So a hand comes to take those first of which it gets the
    promises first.
    """
    honest = honest_hands(net)
    everyone = list(range(net.house[0]))
    for letter in sent:
        if letter[0] in net.liars:
            for hand in honest:
                net.lie(letter[0], hand, ("said", letter))
    carry(net, at, ("said", "echo"), honest, everyone)
    for hand in honest:
        carry(net, at, ("promise",), (hand,), calm[hand][1][at - 1])
    carry(net, at, ("promise",), honest, everyone)


def brought_net(program, house, lot, calm):
    """A Net with this lot as its liars in which all others hear just what they hear in a CALM that is whole for it."""
    inputs = tuple([None if hand in lot else entry[0] for hand, entry in enumerate(calm)])
    net = Net(program, house, inputs, lot)
    told = letters(program, house, calm)
    for at in range(1, program.rounds + 1):
        bring_round(net, calm, at, [letter for letter in told if letter[1] == at])
    return net
