"""Sums of figures with weights by places: of a number, and over a stretch."""

from figuresums.figures.written import figures_of
from figuresums.stretches.blocks import Wheel, check_stretch


def weighed(number, weights, base):
    """The sum of a number's figures, each as often as the weight of its place says."""
    figures = figures_of(number, base)[::-1]
    return sum([figure * _weight_at(place, weights) for place, figure in enumerate(figures)])


def weighed_total(first, last, weights, base):
    """What the weighed sums of all numbers from first to last come to together."""
    check_stretch(first, last)
    return _total_below(last + 1, weights, base) - _total_below(first, weights, base)


def weighed_rests(first, last, weights, divisor, base):
    """How many numbers from first to last have weighed sums with each rest, from 0 on."""
    check_stretch(first, last)
    wheel = Wheel((last + 1).bit_length(), divisor)
    counts = row_of_sums(first, last, weights, base, wheel, 0)
    return tuple([wheel.slot_at(counts, rest) for rest in range(divisor)])


def row_of_sums(first, last, weights, base, line, nought):
    """How many numbers from first to last have each weighed sum: a row of the line.

    The slot of the sum 0 is the one at nought.
    """
    ends = figures_of(last + 1, base)
    starts = figures_of(first, base)
    starts = (0,) * (len(ends) - len(starts)) + starts
    # From the greatest place on the heads of the numbers are counted: from first's head to
    # the one before that of last + 1. A place on, each goes on with all figures. Of those
    # that go on the head of last + 1 the lesser ones come in, of first's they drop out.
    row, start_at, end_at = 0, nought, nought
    for behind, (start, end) in enumerate(zip(starts, ends)):
        weight = _weight_at(len(ends) - 1 - behind, weights)
        row = line.spread(row, base, weight)
        row += line.spread(line.moved(1, end_at), end, weight)
        row -= line.spread(line.moved(1, start_at), start, weight)
        start_at += start * weight
        end_at += end * weight
    return row


def _total_below(bound, weights, base):
    """What the weighed sums of the numbers from 0 on that are less than bound come to."""
    total, place, worth = 0, 0, 1
    while worth < bound:
        rounds, rest = divmod(bound, worth * base)
        figure, left = divmod(rest, worth)
        # A full round has each figure at this place worth times. Behind the rounds those
        # less than bound's own stand there as often, its own one as often as is left.
        together = worth * (rounds * _sum_below(base) + _sum_below(figure)) + left * figure
        total += together * _weight_at(place, weights)
        place += 1
        worth *= base
    return total


def _sum_below(figure):
    """What all lesser figures come to together."""
    return figure * (figure - 1) // 2


def _weight_at(place, weights):
    """The weight of a place, counted from 0 at the last one; the weights come again and again."""
    return weights[place % len(weights)]
