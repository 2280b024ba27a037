"""Told runs: the calm run that honest hands' letters tell, and stories of it (section 9)."""

from liarslate.calm import check_world, least, with_entry
from liarslate.crowds import honest_hands
from liarslate.errors import BadMany, BadStory, NotUsed
from liarslate.machines import Shelf
from liarslate.terms import is_from, is_hands, is_letter, is_pair


def entry_of(letters, hand):
    """The ENTRY of this hand that is told by its letters among these, which stand by ascending rounds."""
    claims = [letter[3] for letter in letters if letter[0] == hand]
    return (claims[0], tuple(claims[1:])) if claims else None


def run_of(n, letters):
    """The CALM with, for each of n hands, what is told by its letters among these."""
    return tuple([entry_of(letters, hand) for hand in range(n)])


def told_by(net, hand, used, lots):
    """What is told of an honest hand by these letters and its own lots."""
    return with_entry(run_of(net.house[0], used), hand, (net.inputs[hand], lots))


def many_told(entry):
    """How much an ENTRY tells: 0 for None."""
    return 0 if entry is None else len(entry[1]) + 1


def check_used(net, hand, letter):
    """Refuses what is no LETTER that this honest hand used."""
    used = net.used(hand)
    # True and 1 are equal, so what is no LETTER is refused ahead of looking for it.
    if not is_letter(letter, net.house[0], net.program.rounds) or letter not in used:
        raise NotUsed(letter)


def hands_for(votes, letter):
    """The hands whose vote was this letter, of ascending (hand, LETTER)."""
    return tuple([hand for hand, vote in votes if vote == letter])


def told(net, hand):
    """The CALM that an honest hand's own lots and the letters that it used tell."""
    return told_by(net, hand, net.used(hand), net.lots(hand))


def told_all(net):
    """The CALM of all honest hands together."""
    runs = [told(net, hand) for hand in honest_hands(net)]
    entries = []
    for hand in range(net.house[0]):
        if hand in net.liars:
            # Nobody uses another letter of a liar than the others: so the longest entry has all of them.
            entries.append(max([run[hand] for run in runs], key=many_told))
        else:
            entries.append((net.inputs[hand], net.lots(hand)))
    return tuple(entries)


def told_at(net, hand, many):
    """What was told of an honest hand behind the first so many deeds."""
    use_times, lot_times = net.times(hand)
    if not is_from(many, 0, len(net)):
        raise BadMany(many)
    used = [letter for letter, time in zip(net.used(hand), use_times) if time <= many]
    lots = [lot for lot, time in zip(net.lots(hand), lot_times) if time <= many]
    return told_by(net, hand, used, tuple(lots))


def shared(net):
    """The greatest CALM within what is told of each honest hand.

    What is told of them fits together, and who heard a letter has its hand's lots of the rounds ahead: so the shortest
    entries make a CALM.
    """
    runs = [told(net, hand) for hand in honest_hands(net)]
    return tuple([min([run[hand] for run in runs], key=many_told) for hand in range(net.house[0])])


def least_told(net, hand, letter):
    """The least CALM within what is told of this hand that has a letter which it used."""
    check_used(net, hand, letter)
    return least(net.program, net.house, told(net, hand), letter[0], letter[1])


def paper(net, hand, letter):
    """For a letter that this hand used: (who echoed it, who promised it, the letters that it claims)."""
    check_used(net, hand, letter)
    _, echoes, promises = net.heard(hand, letter[0], letter[1])
    # Ahead of round 1, whose letters claim an input, there is none.
    ahead = [used for used in net.used(hand) if used[1] == letter[1] - 1]
    claimed = [used for used in ahead if used[0] in letter[3]]
    return (hands_for(echoes, letter), hands_for(promises, letter), tuple(sorted(claimed)))


def story(net, hand):
    """(LETTER, who promised it) for all letters that this hand used, in sequence."""
    rows = []
    for letter in net.used(hand):
        _, _, promises = net.heard(hand, letter[0], letter[1])
        rows.append((letter, hands_for(promises, letter)))
    return tuple(rows)


def many_used(net, hand):
    """By hands how many of their letters this hand used."""
    used = net.used(hand)
    return [len([letter for letter in used if letter[0] == other]) for other in range(net.house[0])]


def differs(net, one, other):
    """By hands how many of its letters one used, less how many other used."""
    return tuple([mine - yours for mine, yours in zip(many_used(net, one), many_used(net, other))])


def slowness(net):
    """For each liar (hand, how many of its letters some honest hand used)."""
    rows = [many_used(net, hand) for hand in honest_hands(net)]
    return tuple([(liar, max([row[liar] for row in rows])) for liar in net.liars])


def has_row_form(house, rounds, row):
    """Whether a value has the form of a row of a STORY."""
    n, t = house
    if not is_pair(row) or not is_letter(row[0], n, rounds):
        return False
    return is_hands(row[1], n) and len(row[1]) >= 2 * t + 1


def is_right_story(program, house, value):
    """Whether any value is a STORY of a right program and house."""
    if not isinstance(value, tuple):
        return False
    shelf = Shelf(program, house)
    for row in value:
        if not has_row_form(house, program.rounds, row):
            return False
        letter = row[0]
        if (letter[0], letter[1]) in shelf.held or not shelf.fits(letter):
            return False
        shelf.put(letter)
    return True


def is_story(program, house, value):
    """Whether any value is a STORY."""
    check_world(program, house)
    return is_right_story(program, house, value)


def calm_of(program, house, story):
    """The CALM that the letters of a STORY tell."""
    check_world(program, house)
    if not is_right_story(program, house, story):
        raise BadStory(story)
    return run_of(house[0], [row[0] for row in story])
