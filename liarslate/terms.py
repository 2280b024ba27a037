"""The shapes of values that several sections share."""

from liarslate.errors import BadHand, BadHouse

GREATEST = 9999
MOST_HANDS = 7
MOST_STOPS = 2


def is_integer(value):
    """Whether value is an int that is not a bool."""
    return isinstance(value, int) and not isinstance(value, bool)


def is_from(value, low, high):
    """Whether value is an integer from low to high."""
    return is_integer(value) and low <= value <= high


def is_value(value):
    """Whether value is a VALUE."""
    return is_from(value, -GREATEST, GREATEST)


def clipped(number):
    """The VALUE nearest to a number."""
    return max(-GREATEST, min(GREATEST, number))


def is_pair(value):
    """Whether value is a tuple of two."""
    return isinstance(value, tuple) and len(value) == 2


def is_house(value):
    """Whether value is a HOUSE."""
    if not is_pair(value):
        return False
    n, t = value
    return is_from(n, 1, MOST_HANDS) and is_from(t, 0, MOST_STOPS) and n > 3 * t


def check_house(house):
    """Refuses what is no HOUSE."""
    if not is_house(house):
        raise BadHouse(house)


def is_hand(value, n):
    """Whether value is one of n hands."""
    return is_from(value, 0, n - 1)


def check_hand(hand, n):
    """Refuses what is none of n hands."""
    if not is_hand(hand, n):
        raise BadHand(hand)


def is_hands(value, n):
    """Whether value is an ascending tuple of some of n hands, none to all."""
    if not isinstance(value, tuple) or not all([is_hand(hand, n) for hand in value]):
        return False
    return all([one < other for one, other in zip(value, value[1:])])


def is_lot(value, house):
    """Whether value is a LOT of a HOUSE."""
    n, t = house
    return is_hands(value, n) and len(value) == n - t


def is_letter(value, n, rounds):
    """Whether value has the shape of a LETTER, of n hands and so many rounds."""
    if not isinstance(value, tuple) or len(value) != 4:
        return False
    hand, at, number, claim = value
    if not is_hand(hand, n) or not is_from(at, 1, rounds) or not is_value(number):
        return False
    return is_value(claim) or is_hands(claim, n)
