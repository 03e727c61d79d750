"""What the functions share: the refusal of a stretch, blocks of its numbers, rows by rests."""

from figuresums.errors import NoStretch
from figuresums.figures.written import sum_of


def check_stretch(first, last):
    """NoStretch where the first number is greater than the last one."""
    if first > last:
        # No number in the text: Python refuses to show those of very many figures.
        raise NoStretch("the first number is greater than the last one")


def blocks_of(first, last, base):
    """The numbers from first to last as blocks (start, start's sum, places, worth), in their order.

    A block holds the worth = base ** places numbers from start on: start ends in
    so many noughts, and these places take all figures.
    """
    blocks = []
    start, start_sum, places, worth = first, sum_of(first, base), 0, 1
    while start <= last:
        while start % (worth * base) == 0 and start + worth * base - 1 <= last:
            places += 1
            worth *= base
        while start + worth - 1 > last:
            places -= 1
            worth //= base
        blocks.append((start, start_sum, places, worth))
        start += worth
        start_sum += 1
        carried = worth * base
        while start % carried == 0:
            start_sum -= base - 1
            carried *= base
    return blocks


class Line:
    """Rows of counts by sums, each packed into one number: a slot of so many bits for each sum.

    One shift or one adding of such numbers does what takes a step for each sum with
    rows as lists. No count may be too great for its slot.
    """

    def __init__(self, width):
        self.width = width
        self._slot_bits = (1 << width) - 1

    def moved(self, row, by):
        """The row with each count so many slots further on."""
        if by < 0:
            return row >> -by * self.width
        return row << by * self.width

    def spread(self, row, times, by):
        """So many rows added: the row itself, moved on by so many slots, by twice as many, .."""
        if times < 2:
            return row * times
        half = self.spread(row, times // 2, by)
        told = half + self.moved(half, times // 2 * by)
        if times % 2 == 1:
            told = row + self.moved(told, by)
        return told

    def slot_at(self, row, place):
        """The count in a slot, the slots counted from 0 on."""
        return row >> place * self.width & self._slot_bits


class Wheel(Line):
    """A line of a slot for each rest by a divisor: behind the last slot comes the first one."""

    def __init__(self, width, divisor):
        Line.__init__(self, width)
        self._divisor = divisor
        self._whole = divisor * width
        self._all_bits = (1 << self._whole) - 1

    def moved(self, row, by):
        """The row with each count so many slots further on, around the wheel."""
        far = row << by % self._divisor * self.width
        return (far & self._all_bits) + (far >> self._whole)
