"""A number that is kept, added to and taken from."""

from figuresums.errors import NoStretch
from figuresums.figures.carries import carries_of
from figuresums.figures.written import sum_of

MOST_NUMBER = 10 ** 30


class KeptNumber:
    """A number of a base, at first 0, and the carries that all adding to it has made."""

    def __init__(self, base):
        self._base = base
        self._number = 0
        self._carries = 0

    def add(self, number):
        """Adds a number; NoStretch where this leads above the greatest number."""
        after = self._number + number
        _check_kept(after)
        self._carries += carries_of(self._number, number, self._base)
        self._number = after

    def less(self, number):
        """Takes a number away; NoStretch where this leads below 0."""
        after = self._number - number
        _check_kept(after)
        self._number = after

    def number_now(self):
        """The number as it is now."""
        return self._number

    def sum_now(self):
        """The sum of the number's figures."""
        return sum_of(self._number, self._base)

    def carries_now(self):
        """How many carries all adding has made till now."""
        return self._carries


def _check_kept(number):
    """NoStretch where a number cannot be kept."""
    if number < 0 or number > MOST_NUMBER:
        raise NoStretch("a number from 0 to 10 ** 30 is kept")
