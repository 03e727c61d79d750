"""Multiples of a divisor: the least one with a told sum, and the least sum of all."""

from figuresums.stretches.blocks import Wheel


def least_multiple(divisor, told, base):
    """The least number from 1 on that has the told sum and is divided, or None."""
    if told < 1:
        return None
    wheel = Wheel(told + base, divisor)
    rows = _rows_of_sums(divisor, told, base, wheel)
    if not _has(rows[-1], 0, told, wheel):
        return None
    worths = _worths(len(rows) - 1, divisor, base)
    number, rest, left = 0, 0, told
    for row, worth in zip(rows[-2::-1], worths[::-1]):
        figure = 0
        while not _has(row, rest, left, wheel):
            figure += 1
            left -= 1
            rest = (rest - worth) % divisor
        number = number * base + figure
    return number


def least_sum(divisor, base):
    """The least sum of all multiples from 1 times the divisor on."""
    # From 1 on each number is made by noughts behind it, which leave the sum, and by
    # adding 1. Where this carries the sum is less than the steps, but then the rest
    # was met before: the first steps that meet a rest are the least sum with it.
    told = 1
    met = {}
    rests = _met_anew([1 % divisor], met, divisor, base)
    while 0 not in met:
        told += 1
        rests = _met_anew([(rest + 1) % divisor for rest in rests], met, divisor, base)
    return told


def _rows_of_sums(divisor, told, base, wheel):
    """For 0 places, for 1, ..: which sums, to the told one, the fillings with each rest have.

    A slot holds a bit for each sum. The last row is the first one that has the told sum
    at the rest 0, if there is one.
    """
    to_told = sum([wheel.moved((1 << told + 1) - 1, rest) for rest in range(divisor)])
    rows = [1]
    worth, unchanged = 1 % divisor, 0
    # So many places in a row have all worths that are still to come: where none of
    # them changed the row, none ever does.
    while unchanged < divisor and not _has(rows[-1], 0, told, wheel):
        row = _with_place_ahead(rows[-1], worth, base, wheel) & to_told
        unchanged = unchanged + 1 if row == rows[-1] else 0
        rows.append(row)
        worth = worth * base % divisor
    return rows


def _with_place_ahead(row, worth, base, wheel):
    """The row for one place more, of so much worth; the slots have room for its sums."""
    figures = 1
    while figures < base:
        more = min(figures, base - figures)
        row |= wheel.moved(row << more, more * worth)
        figures += more
    return row


def _has(row, rest, told, wheel):
    """Whether a filling with the rest has the told sum."""
    return wheel.slot_at(row, rest) >> told & 1 == 1


def _worths(places, divisor, base):
    """The rests of so many places' worths, from the last place on."""
    worths = []
    worth = 1 % divisor
    for _ in range(places):
        worths.append(worth)
        worth = worth * base % divisor
    return worths


def _met_anew(rests, met, divisor, base):
    """The rests that are not met yet, and those of them with noughts behind; all are met then."""
    anew = []
    for rest in rests:
        while rest not in met:
            met[rest] = True
            anew.append(rest)
            rest = rest * base % divisor
    return anew
