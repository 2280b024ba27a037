"""Claims on what hands say (section 11): their forms, and whether they hold."""

from liarslate.errors import BadClaim
from liarslate.terms import is_integer

PLAIN_CLAIMS = ("alike", "between", "among")


def is_claim(value):
    """Whether value is a CLAIM."""
    if not isinstance(value, tuple) or not value or not isinstance(value[0], str):
        return False
    word, numbers = value[0], value[1:]
    if not all([is_integer(number) for number in numbers]):
        return False
    if word == "near":
        return len(numbers) == 1 and numbers[0] >= 0
    if word == "within":
        return len(numbers) == 2 and numbers[0] <= numbers[1]
    return word in PLAIN_CLAIMS and not numbers


def check_claim(claim):
    """Refuses what is no CLAIM."""
    if not is_claim(claim):
        raise BadClaim(claim)


def spread_of(ends):
    """By how much the greatest of these is greater than the least."""
    return max(ends) - min(ends)


# The rules of the table: each one gets the claim's numbers, what hands say, and their inputs.


def holds_alike(numbers, ends, inputs):
    """Whether all are one and the same."""
    return spread_of(ends) == 0


def holds_near(numbers, ends, inputs):
    """Whether the greatest is at most so much greater than the least."""
    return spread_of(ends) <= numbers[0]


def holds_between(numbers, ends, inputs):
    """Whether each is from the least to the greatest input."""
    return min(inputs) <= min(ends) and max(ends) <= max(inputs)


def holds_among(numbers, ends, inputs):
    """Whether each is an input."""
    return all([end in inputs for end in ends])


def holds_within(numbers, ends, inputs):
    """Whether each is within two bounds."""
    return numbers[0] <= min(ends) and max(ends) <= numbers[1]


HOLDS = {
    "alike": holds_alike,
    "near": holds_near,
    "between": holds_between,
    "among": holds_among,
    "within": holds_within,
}


def holds(claim, row, inputs):
    """Whether a CLAIM holds of a row of ends and inputs, both None for hands that don't count."""
    rule = HOLDS[claim[0]]
    return rule(claim[1:], [end for end in row if end is not None], [value for value in inputs if value is not None])
