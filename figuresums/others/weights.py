"""Sums of figures with weights by places: of a number, and over a stretch."""

from figuresums.figures.written import figures_of
from figuresums.stretches.blocks import blocks_of, check_stretch, rotated


def weighed(number, weights, base):
    """The sum of a number's figures, each as often as the weight of its place says."""
    figures = figures_of(number, base)[::-1]
    return sum([figure * _weight_at(place, weights) for place, figure in enumerate(figures)])


def weighed_total(first, last, weights, base):
    """What the weighed sums of all numbers from first to last come to together."""
    check_stretch(first, last)
    total = 0
    for start, places, worth in blocks_of(first, last, base):
        total += worth * weighed(start, weights, base)
        # At each place of a block all figures stand equally often.
        each = worth * (base - 1) // 2
        total += each * sum([_weight_at(place, weights) for place in range(places)])
    return total


def weighed_rests(first, last, weights, divisor, base):
    """How many numbers from first to last have weighed sums with each rest, from 0 on."""
    check_stretch(first, last)
    rows = _rows_by_rests(len(figures_of(last, base)), weights, divisor, base)
    counts = [0] * divisor
    for start, places, _ in blocks_of(first, last, base):
        row = rotated(rows[places], weighed(start, weights, base))
        counts = [count + more for count, more in zip(counts, row)]
    return tuple(counts)


def _rows_by_rests(places, weights, divisor, base):
    """For 0 to so many last places: how many of their fillings have each rest."""
    rows = [[1] + [0] * (divisor - 1)]
    for place in range(places):
        weight = _weight_at(place, weights)
        counts = [0] * divisor
        for figure in range(base):
            row = rotated(rows[-1], figure * weight)
            counts = [count + more for count, more in zip(counts, row)]
        rows.append(counts)
    return rows


def _weight_at(place, weights):
    """The weight of a place, counted from 0 at the last one; the weights come again and again."""
    return weights[place % len(weights)]
