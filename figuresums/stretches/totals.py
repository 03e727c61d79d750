"""The sums of all numbers of a stretch together, and how often each figure stands there."""

from figuresums.stretches.blocks import check_stretch


def total_of(first, last, base):
    """What the sums of all numbers from first to last come to together."""
    counts = figures_in(first, last, base)
    return sum([figure * count for figure, count in enumerate(counts)])


def figures_in(first, last, base):
    """How often each figure, from 0 on, stands in the numbers from first to last."""
    check_stretch(first, last)
    before = _counts_below(first, base)
    through = _counts_below(last + 1, base)
    return tuple([upper - lower for lower, upper in zip(before, through)])


def _counts_below(bound, base):
    """How often each figure stands in the numbers from 0 on that are less than bound."""
    counts = [0] * base
    worth = 1
    while worth <= bound:
        rounds, rest = divmod(bound, worth * base)
        for figure in range(base):
            in_last_round = min(max(rest - figure * worth, 0), worth)
            counts[figure] += rounds * worth + in_last_round
        # The rounds took numbers less than worth as filled up with noughts to this
        # place. They are not written so; only the 0 has the nought of the last place.
        if worth > 1:
            counts[0] -= worth
        worth *= base
    return counts
