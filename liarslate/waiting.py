"""What honest hands wait for, and what came of it when (section 10)."""

from liarslate.crowds import check_honest, honest_hands
from liarslate.errors import BadLetter, BadRound, NotWaiting
from liarslate.terms import check_hand, check_house, is_from, is_hand, is_letter, is_lot, is_pair
from liarslate.texts import check_round, MOST_ROUNDS


def has_place(letters, place):
    """Whether one of these LETTERS is of this (hand, round)."""
    return place in [(letter[0], letter[1]) for letter in letters]


def lacking(net, hand, letter):
    """The ascending tuple of (hand, round) on which a letter leans and which this honest hand has not used.

    It is () for a letter that leans on none, or claims what nobody can hear.
    """
    other, at, _, claim = letter
    if at == 1 or not is_lot(claim, net.house) or other not in claim:
        return ()
    used = net.used(hand)
    return tuple([(one, at - 1) for one in claim if not has_place(used, (one, at - 1))])


def has_vote(votes, hand):
    """Whether this hand's vote is among these (hand, LETTER)."""
    return hand in [vote[0] for vote in votes]


def rank_of(letter, many):
    """What stands lower for the letter that is to be told: most votes first, then as section 10 lists it."""
    return (-many, letter[2], isinstance(letter[3], tuple), letter)


def most_voted(word, votes):
    """(word, LETTER, how many) of the LETTER that most voted for, of (hand, LETTER), one at least."""
    letters = [vote for _, vote in votes]
    rank = min([rank_of(letter, letters.count(letter)) for letter in letters])
    return (word, rank[3], -rank[0])


def standing(net, hand, other, at):
    """How far an honest hand is with the letter of a right (other, at)."""
    if has_place(net.used(hand), (other, at)):
        return ("used",)
    for letter in net.taken(hand):
        if (letter[0], letter[1]) == (other, at):
            rows = lacking(net, hand, letter)
            return ("leaning", rows) if rows else ("wrong",)
    _, echoes, promises = net.heard(hand, other, at)
    if promises:
        return most_voted("promised", promises)
    return most_voted("echoed", echoes) if echoes else ("nothing",)


def unused_places(net, hand):
    """The (hand, round) of the letters of an honest hand's round that it has not used."""
    used, at = net.used(hand), net.at_round(hand)
    return [(other, at) for other in range(net.house[0]) if not has_place(used, (other, at))]


def has_said(net, hand):
    """Whether an honest hand has said."""
    return len(net.lots(hand)) == net.program.rounds


def check_waiting(net, hand):
    """Refuses what is no honest hand that waits."""
    if has_said(net, hand):
        raise NotWaiting(hand)


def chain_from(net, hand, place):
    """A chain that begins with this (hand, round), None without: what it leans on is of lesser rounds."""
    found = standing(net, hand, place[0], place[1])
    if found[0] in ("promised", "echoed", "nothing"):
        return (place,)
    if found[0] == "leaning":
        for further in found[1]:
            rest = chain_from(net, hand, further)
            if rest is not None:
                return (place, *rest)
    return None


def is_place(net, value):
    """Whether any value is a (hand, round) of the net's."""
    return is_pair(value) and is_hand(value[0], net.house[0]) and is_from(value[1], 1, net.program.rounds)


def stand(net, hand, other, at):
    """How far an honest hand is with the letter of (other, at)."""
    check_honest(net, hand)
    check_hand(other, net.house[0])
    check_round(net.program, at)
    return standing(net, hand, other, at)


def waits(net, hand):
    """For each hand whose letter of its round an honest hand has not used (hand, what stand tells)."""
    if has_said(net, hand):
        return ()
    return tuple([(other, standing(net, hand, other, at)) for other, at in unused_places(net, hand)])


def chain(net, hand):
    """A row of (hand, round): each leans on the next one, of the last one no letter is taken."""
    check_waiting(net, hand)
    rows = [chain_from(net, hand, place) for place in unused_places(net, hand)]
    return [row for row in rows if row is not None][0]


def shows_chain(net, hand, value):
    """Whether any value is such a row."""
    check_waiting(net, hand)
    if not isinstance(value, tuple) or not all([is_place(net, place) for place in value]):
        return False
    if not value or value[0] not in unused_places(net, hand):
        return False
    stands = [standing(net, hand, other, at) for other, at in value]
    if stands[-1][0] not in ("promised", "echoed", "nothing"):
        return False
    return all([ahead[0] == "leaning" and place in ahead[1] for ahead, place in zip(stands, value[1:])])


def over(net):
    """Whether nothing is under way and all honest hands have said."""
    return not net.under_way and all([has_said(net, hand) for hand in honest_hands(net)])


def to_rest(net):
    """How many slips rest would deliver now."""
    return net.copy().rest()


def slips_about(net, hand, at):
    """How many (said, echo, promise) slips honest hands put so far with letters of (hand, at)."""
    check_hand(hand, net.house[0])
    check_round(net.program, at)
    honest = honest_hands(net)
    others = len(honest) - 1
    saids = 1 if hand in honest and net.at_round(hand) >= at else 0
    heard = [(one, net.heard(one, hand, at)) for one in honest]
    echoes = len([one for one, row in heard if has_vote(row[1], one)])
    promises = len([one for one, row in heard if has_vote(row[2], one)])
    return (saids * others, echoes * others, promises * others)


def all_slips(house, rounds):
    """How many slips are put in all, behind rest, if no hand lies."""
    check_house(house)
    if not is_from(rounds, 1, MOST_ROUNDS):
        raise BadRound(rounds)
    n = house[0]
    return n * rounds * (n - 1) * (2 * n + 1)


def first_used(net, letter):
    """For each honest hand that used a letter (hand, how many deeds stood as soon as it was used)."""
    if not is_letter(letter, net.house[0], net.program.rounds):
        raise BadLetter(letter)
    found = []
    for hand in honest_hands(net):
        use_times, _ = net.times(hand)
        found.extend([(hand, time) for used, time in zip(net.used(hand), use_times) if used == letter])
    return tuple(found)


def late(net):
    """The letters that some honest hand used, and another one not, by hands, then rounds."""
    honest = honest_hands(net)
    used = [letter for hand in honest for letter in net.used(hand)]
    # Nobody uses another letter of a hand and round than the others: so no two unlike claims are compared.
    found = [letter for letter in used if used.count(letter) < len(honest)]
    return tuple(sorted(set(found)))
