"""The expressions of programs (section 4): their words, and what they are worth."""

from liarslate.terms import clipped, is_from

FIGURES = "0123456789"
GREATEST_WRITTEN = 99
MOST_FIGURES = 9
DEEPEST = 12


class Seat:
    """What an expression can ask for besides cells: whose it is, and what was heard in this round."""

    def __init__(self, house, hand, pairs):
        self.hand = hand
        self.hands, self.stops = house
        self.pairs = pairs
        self.ranked = sorted([pair[1] for pair in pairs])


# The rules of the table's words: each one gets the seat and the VALUES of the expressions within it.


def worth_me(seat, parts):
    """The hand's number."""
    return seat.hand


def worth_hands(seat, parts):
    """How many hands there are."""
    return seat.hands


def worth_stops(seat, parts):
    """How many hands may stop or lie."""
    return seat.stops


def worth_plus(seat, parts):
    """The sum of two."""
    return clipped(parts[0] + parts[1])


def worth_less(seat, parts):
    """1 if the first is less than the second."""
    return 1 if parts[0] < parts[1] else 0


def worth_half(seat, parts):
    """The half, rounded down."""
    return parts[0] // 2


def worth_turn(seat, parts):
    """0 less it."""
    return -parts[0]


def worth_pick(seat, parts):
    """The second if the first is 0, otherwise the third."""
    return parts[1] if parts[0] == 0 else parts[2]


def worth_least(seat, parts):
    """The least VALUE heard."""
    return seat.ranked[0]


def worth_greatest(seat, parts):
    """The greatest VALUE heard."""
    return seat.ranked[-1]


def worth_sum(seat, parts):
    """The sum of all VALUES heard."""
    return clipped(sum(seat.ranked))


def worth_most(seat, parts):
    """The VALUE heard from most hands, the least of several."""
    return min([(-seat.ranked.count(value), value) for value in seat.ranked])[1]


def worth_count(seat, parts):
    """From how many hands this VALUE was heard."""
    return seat.ranked.count(parts[0])


def worth_rank(seat, parts):
    """The VALUE heard with this number, by size."""
    return seat.ranked[max(0, min(len(seat.ranked) - 1, parts[0]))]


def worth_heard(seat, parts):
    """What the hand with this number sent if it was heard, otherwise the second."""
    for hand, value in seat.pairs:
        if hand == parts[0]:
            return value
    return parts[1]


RULES = {
    "me": worth_me,
    "hands": worth_hands,
    "stops": worth_stops,
    "plus": worth_plus,
    "less": worth_less,
    "half": worth_half,
    "turn": worth_turn,
    "pick": worth_pick,
    "least": worth_least,
    "greatest": worth_greatest,
    "sum": worth_sum,
    "most": worth_most,
    "count": worth_count,
    "rank": worth_rank,
    "heard": worth_heard,
}
# How many expressions stand within an expression: none for all words that are not told here.
PARTS = {"plus": 2, "less": 2, "half": 1, "turn": 1, "pick": 3, "count": 1, "rank": 1, "heard": 2}
IN_PUT_ALONE = ("least", "greatest", "sum", "most", "count", "rank", "heard")


def worth(steps, cells, seat):
    """The VALUE of an expression. Its steps stand from right to left, so the parts of each one come first."""
    stack = []
    for word, number in steps:
        if word == "number":
            stack.append(number)
        elif word == "cell":
            stack.append(cells[number])
        else:
            parts = [stack.pop() for _ in range(PARTS.get(word, 0))]
            rule = RULES[word]
            stack.append(rule(seat, parts))
    return stack[0]


def number_of(word):
    """The integer that a word is, as Python writes it; None for all else, and for one of too many figures."""
    figures = word[1:] if word.startswith("-") else word
    if not 1 <= len(figures) <= MOST_FIGURES or not all([sign in FIGURES for sign in figures]):
        return None
    number = int(word)
    return number if str(number) == word else None


def is_written(number):
    """Whether it is an integer that can stand in a program's text."""
    return is_from(number, -GREATEST_WRITTEN, GREATEST_WRITTEN)


def step_of(word, names, in_put):
    """The step that a word of an expression is; None if it is none here."""
    if word in names:
        return ("cell", names.index(word))
    if word in RULES and (in_put or word not in IN_PUT_ALONE):
        return (word, None)
    number = number_of(word)
    return ("number", number) if is_written(number) else None


def steps_of(words, names, in_put):
    """The steps of an expression, from right to left; None if the words are none."""
    steps = []
    depths = []
    for word in reversed(words):
        step = step_of(word, names, in_put)
        if step is None or PARTS.get(step[0], 0) > len(depths):
            return None
        within = [depths.pop() for _ in range(PARTS.get(step[0], 0))]
        depths.append(1 + max(within, default=0))
        steps.append(step)
    return tuple(steps) if len(depths) == 1 and depths[0] <= DEEPEST else None
