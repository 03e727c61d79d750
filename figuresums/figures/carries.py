"""Carries of adding, and figures that are in turn added and taken away."""

from figuresums.figures.written import figures_of, sum_of
from figuresums.others.weights import row_of_sums, weighed
from figuresums.stretches.blocks import Line, check_stretch

IN_TURN = (1, -1)


def carries_of(one, other, base):
    """How many carries are made when two numbers are added place by place."""
    more = sum_of(one, base) + sum_of(other, base) - sum_of(one + other, base)
    return more // (base - 1)


def pairs_without(bound, base):
    """How many pairs of numbers, each from 0 on and less than bound, make no carry."""
    # Pairs of fillings of so many last places that make no carry: all of them, those
    # whose first filling is less than bound's, and those whose both fillings are.
    free, half, both = 1, 0, 0
    for figure in figures_of(bound, base)[::-1]:
        lesser_pairs = _pairs_below(figure, figure, base)
        beside_own = min(figure, base - figure)
        own_twice = both if 2 * figure < base else 0
        both = lesser_pairs * free + 2 * beside_own * half + own_twice
        half = _pairs_below(figure, base, base) * free + (base - figure) * half
        free *= _pairs_below(base, base, base)
    return both


def _pairs_below(one, other, base):
    """How many pairs of a figure less than one and a figure less than other make no carry."""
    return sum([min(other, base - figure) for figure in range(one)])


def turned_sum(number, base):
    """The figures from the last one on, in turn added and taken away, the last one added."""
    return weighed(number, IN_TURN, base)


def count_turned(first, last, told, base):
    """How many numbers from first to last have the told sum of figures in turn."""
    check_stretch(first, last)
    added = (len(figures_of(last, base)) + 1) // 2
    reach = added * (base - 1)
    if abs(told) > reach:
        return 0
    line = Line((last + 1).bit_length())
    row = row_of_sums(first, last, IN_TURN, base, line, reach)
    return line.slot_at(row, reach + told)
