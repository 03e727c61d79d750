"""The greatest and the least sum of a stretch, and the numbers that set a new greatest sum."""

from figuresums.figures.written import sum_of
from figuresums.stretches.blocks import blocks_of, check_stretch

MOST_RECORDS = 60


def ends_of(first, last, base):
    """The greatest and the least sum from first to last, each as (sum, first number with it)."""
    check_stretch(first, last)
    greatest = least = (sum_of(first, base), first)
    for start, low, places, worth in blocks_of(first, last, base):
        high = low + places * (base - 1)
        if high > greatest[0]:
            greatest = (high, start + worth - 1)
        if low < least[0]:
            least = (low, start)
    return greatest, least


def records_in(first, last, base):
    """The first numbers from first to last that have a greater sum than all lesser numbers."""
    check_stretch(first, last)
    records = []
    # The least number with a sum has one figure ahead of greatest figures alone: the
    # one with the next sum has 1 more at that place, till this is the greatest, too.
    record, worth = 0, 1
    while record <= last and len(records) < MOST_RECORDS:
        if record >= first:
            records.append(record)
        record += worth
        if record == worth * base - 1:
            worth *= base
    return tuple(records)
