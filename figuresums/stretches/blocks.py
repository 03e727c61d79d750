"""What the functions over stretches share: the refusal, blocks of numbers, rows by rests."""

from figuresums.errors import NoStretch


def check_stretch(first, last):
    """NoStretch where the first number is greater than the last one."""
    if first > last:
        # No number in the text: Python refuses to show those of very many figures.
        raise NoStretch("the first number is greater than the last one")


def blocks_of(first, last, base):
    """The numbers from first to last as blocks (start, places, worth), in their order.

    A block holds the worth = base ** places numbers from start on: start ends in
    so many noughts, and these places take all figures.
    """
    blocks = []
    start, places, worth = first, 0, 1
    while start <= last:
        while start % (worth * base) == 0 and start + worth * base - 1 <= last:
            places += 1
            worth *= base
        while start + worth - 1 > last:
            places -= 1
            worth //= base
        blocks.append((start, places, worth))
        start += worth
    return blocks


def rotated(row, by):
    """A row of counts by rests, for the same numbers with so much added to each."""
    shift = by % len(row)
    return row[-shift:] + row[:-shift]
