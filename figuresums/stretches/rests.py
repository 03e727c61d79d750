"""Rests of the sums of a stretch, and numbers with a told sum and a told rest."""

from figuresums.figures.written import figures_of
from figuresums.others.weights import weighed_rests
from figuresums.stretches.blocks import Wheel, blocks_of, check_stretch


def counts_by_rest(first, last, divisor, base):
    """How many numbers from first to last have sums with each rest, from 0 on."""
    return weighed_rests(first, last, (1,), divisor, base)


def count_both(first, last, told, divisor, rest, base):
    """How many numbers from first to last have the told sum and, themselves, the told rest."""
    check_stretch(first, last)
    if rest < 0 or rest >= divisor:
        return 0
    return _count_in(blocks_of(first, last, base), told, divisor, rest, base)


def count_divided(first, last, base):
    """How many numbers from first to last are divided by their own sum."""
    check_stretch(first, last)
    blocks = blocks_of(first, last, base)
    greatest = (base - 1) * len(figures_of(last, base))
    return sum([_count_in(blocks, told, told, 0, base) for told in range(1, greatest + 1)])


def _count_in(blocks, told, divisor, rest, base):
    """How many numbers of the blocks have the told sum and the told rest."""
    most, worth = max([(places, worth) for _, _, places, worth in blocks])
    # No count is greater than the greatest block.
    wheel = Wheel(worth.bit_length(), divisor)
    tables = _tables(most, told, divisor, base, wheel)
    many = 0
    for start, start_sum, places, _ in blocks:
        left = told - start_sum
        if left >= 0 and left < len(tables[places]):
            many += wheel.slot_at(tables[places][left], (rest - start) % divisor)
    return many


def _tables(places, told, divisor, base, wheel):
    """For 0 to so many places: rows, by sums to the told one, of how many fillings have each rest."""
    tables = [[1]]
    worth = 1
    for _ in range(places):
        tables.append(_with_place_ahead(tables[-1], worth, told, base, wheel))
        worth = worth * base % divisor
    return tables


def _with_place_ahead(rows, worth, told, base, wheel):
    """From the rows by sums for some places those for one place more, of so much worth."""
    padded = rows + [0] * (base - 1)
    more = []
    for total in range(min(len(padded), told + 1)):
        # With 1 more at the new place the fillings of the sum before come to this one.
        # Those that were full there already drop out, those with a nought come in.
        row = padded[total]
        if total > 0:
            row += wheel.moved(more[-1], worth)
        if total >= base:
            row -= wheel.moved(padded[total - base], worth * base)
        more.append(row)
    return more
