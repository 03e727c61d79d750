"""Rests of the sums of a stretch, and numbers with a told sum and a told rest."""

from figuresums.figures.written import figures_of, sum_of
from figuresums.others.weights import weighed_rests
from figuresums.stretches.blocks import blocks_of, check_stretch, rotated


def counts_by_rest(first, last, divisor, base):
    """How many numbers from first to last have sums with each rest, from 0 on."""
    return weighed_rests(first, last, (1,), divisor, base)


def count_both(first, last, told, divisor, rest, base):
    """How many numbers from first to last have the told sum and, themselves, the told rest."""
    check_stretch(first, last)
    if rest < 0 or rest >= divisor:
        return 0
    return _count_in(_heads_of(first, last, base), told, divisor, rest, base)


def count_divided(first, last, base):
    """How many numbers from first to last are divided by their own sum."""
    check_stretch(first, last)
    heads = _heads_of(first, last, base)
    greatest = (base - 1) * len(figures_of(last, base))
    return sum([_count_in(heads, told, told, 0, base) for told in range(1, greatest + 1)])


def _heads_of(first, last, base):
    """The blocks of a stretch as (start, the start's sum, places)."""
    blocks = blocks_of(first, last, base)
    return [(start, sum_of(start, base), places) for start, places, _ in blocks]


def _count_in(heads, told, divisor, rest, base):
    """How many numbers of the blocks have the told sum and the told rest."""
    most = max([places for _, _, places in heads])
    tables = _tables(most, told, divisor, base)
    many = 0
    for start, head_sum, places in heads:
        left = told - head_sum
        if left >= 0 and left < len(tables[places]):
            many += tables[places][left][(rest - start) % divisor]
    return many


def _tables(places, told, divisor, base):
    """For 0 to so many places: rows, by sums to the told one, of how many fillings have each rest."""
    tables = [[[1] + [0] * (divisor - 1)]]
    worth = 1
    for _ in range(places):
        tables.append(_with_place_ahead(tables[-1], worth, told, divisor, base))
        worth = worth * base % divisor
    return tables


def _with_place_ahead(rows, worth, told, divisor, base):
    """From the rows by sums for some places those for one place more, of so much worth."""
    nothing = [0] * divisor
    padded = rows + [nothing] * (base - 1)
    more = []
    for total in range(min(len(padded), told + 1)):
        # With 1 more at the new place the fillings of the sum before come to this one.
        # Those that were full there already drop out, those with a nought come in.
        before = more[-1] if total > 0 else nothing
        full = padded[total - base] if total >= base else nothing
        raised = rotated(before, worth)
        gone = rotated(full, worth * base)
        more.append([new + up - out for new, up, out in zip(padded[total], raised, gone)])
    return more
