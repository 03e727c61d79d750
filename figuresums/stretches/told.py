"""The numbers that have a told sum: how many, the so-manieth, and those beside a number."""

from figuresums.figures.written import figures_of, sum_of
from figuresums.stretches.blocks import blocks_of, check_stretch

MOST_FIGURES = 200


def count_with(first, last, told, base):
    """How many numbers from first to last have the told sum, and what these come to."""
    check_stretch(first, last)
    return _pair_with(first, last, told, base)


def nth_with(place, told, base):
    """The number at a place, from 0 on, among those with the told sum; None behind the last one."""
    rows = [[1]]
    while _count_at(rows[-1], told) <= place:
        if len(rows) > MOST_FIGURES:
            return None
        rows.append(_with_one_more(rows[-1], told, base))
    number, rest = 0, told
    for row in rows[-2::-1]:
        figure = 0
        while _count_at(row, rest - figure) <= place:
            place -= _count_at(row, rest - figure)
            figure += 1
        number = number * base + figure
        rest -= figure
    return number


def place_of(number, base):
    """How many lesser numbers have the same sum."""
    return _pair_with(0, number - 1, sum_of(number, base), base)[0]


def beside(number, base):
    """The next lesser and the next greater number with the same sum, or None for each."""
    return _next_lesser(number, base), _next_greater(number, base)


def _pair_with(first, last, told, base):
    """As count_with, but with nothing where first is greater than last."""
    rows = _rows_of_counts(len(figures_of(last, base)), told, base)
    many, total = 0, 0
    for start, start_sum, places, worth in blocks_of(first, last, base):
        rest = told - start_sum
        count = _count_at(rows[places], rest)
        many += count
        total += start * count
        if places > 0:
            # Over all numbers of the block with the sum, each of its places has
            # the same share of the rest.
            share = count * rest // places
            total += share * ((worth - 1) // (base - 1))
    return many, total


def _rows_of_counts(places, told, base):
    """For 0 to so many places: how many of their fillings have each sum, to the told one."""
    rows = [[1]]
    for _ in range(places):
        rows.append(_with_one_more(rows[-1], told, base))
    return rows


def _with_one_more(row, told, base):
    """From the counts by sums for some places those for one place more."""
    more = []
    count = 0
    for total in range(min(len(row) + base - 1, told + 1)):
        # The new figure, from 0 to base - 1, leads here from this sum and from the
        # base - 1 sums before it: a window that moves on with the sum.
        if total < len(row):
            count += row[total]
        if total >= base:
            count -= row[total - base]
        more.append(count)
    return more


def _count_at(row, total):
    """The count for a sum, 0 for sums that the row does not reach."""
    if total < 0 or total >= len(row):
        return 0
    return row[total]


def _next_greater(number, base):
    """The next greater number with the same sum, or None."""
    if number <= 0:
        return None
    head, worth, behind = number, 1, 0
    while True:
        head, figure = divmod(head, base)
        if behind > 0 and figure < base - 1:
            return (head * base + figure + 1) * worth + _least_with(behind - 1, base)
        behind += figure
        worth *= base


def _least_with(told, base):
    """The least number with the told sum: its last places are as full as can be."""
    number, worth = 0, 1
    while told > 0:
        figure = min(told, base - 1)
        number += figure * worth
        worth *= base
        told -= figure
    return number


def _next_lesser(number, base):
    """The next lesser number with the same sum, or None."""
    worth = 1
    while worth <= number:
        worth *= base
    # Taken from worth - 1, the number with greatest figures alone, numbers with one
    # sum have one sum again, and the lesser ones become the greater ones.
    mirrored = _next_greater(worth - 1 - number, base)
    if mirrored is None or mirrored >= worth:
        return None
    return worth - 1 - mirrored
