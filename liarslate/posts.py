"""Slips on their way: whatever is put gets the next number, and stays until it is pulled."""

from liarslate.errors import NoSlip
from liarslate.terms import is_integer


class Post:
    """The slips under way, by their numbers: (from, to, and what else is told of each)."""

    def __init__(self):
        self.slips = {}
        self.many = 0

    def put(self, slip):
        """Puts this slip: its number."""
        number = self.many
        self.slips[number] = slip
        self.many += 1
        return number

    def pull(self, number):
        """The slip with this number, which is under way no longer."""
        if not is_integer(number) or number not in self.slips:
            raise NoSlip(number)
        return self.slips.pop(number)

    def least(self):
        """The least number under way, None without: slips are put by ascending numbers, and dicts keep this."""
        return next(iter(self.slips), None)
