"""Promises 1 and 2: told at once at the greatest numbers, and told the same when asked again."""

import unittest

from figuresums.errors import SumError
from figuresums.figures.carries import carries_of, count_turned, pairs_without, turned_sum
from figuresums.figures.written import figures_of, number_shown, read_number, root_of, sum_of
from figuresums.kept import KeptNumber
from figuresums.others.multiples import least_multiple, least_sum
from figuresums.others.weights import weighed, weighed_rests, weighed_total
from figuresums.stretches.ends import ends_of, records_in
from figuresums.stretches.rests import count_both, count_divided, counts_by_rest
from figuresums.stretches.told import beside, count_with, nth_with, place_of
from figuresums.stretches.totals import figures_in, total_of
from figuresums.whole import Desk
from tests.oracle import BASES, FAIR, GREATEST, written

IN_TURN = (20, -20, 3, 0, -7, 1, 19, -1)
OF_STRETCHES = (total_of, figures_in, count_with, counts_by_rest, count_both, count_divided, ends_of, records_in,
                weighed_total, weighed_rests, count_turned)


def asks_in(base):
    """Asks of each function, at the greatest numbers and at small ones."""
    asks = [
        (read_number, "10", base), (number_shown, GREATEST, base), (figures_of, GREATEST, base),
        (sum_of, GREATEST, base), (root_of, GREATEST, base), (beside, GREATEST, base),
        (place_of, GREATEST, base), (weighed, GREATEST, IN_TURN, base), (count_divided, 1, 10 ** 8, base),
        (count_both, 0, FAIR, 13, 60, 7, base), (count_both, FAIR, 0, 13, 60, 7, base),
        (count_divided, 7, 3, base), (nth_with, GREATEST, 300, base), (nth_with, GREATEST, 1, base),
        (nth_with, 12, 3, base), (beside, 18, base), (place_of, 18, base), (weighed, 99, (1, -1), base),
        (carries_of, GREATEST, GREATEST, base), (carries_of, GREATEST - 1, 1, base), (carries_of, 5, 0, base),
        (pairs_without, FAIR, base), (pairs_without, 9, base), (turned_sum, GREATEST, base),
        (least_multiple, 60, 100, base), (least_multiple, 59, 100, base), (least_multiple, 7, 2, base),
        (least_sum, 60, base), (least_sum, 59, base), (kept_of, (GREATEST, 0), (GREATEST - 7, 7), base),
        (lines_of, written(GREATEST, base), "1", base),
    ]
    for first, last in ((0, GREATEST), (GREATEST, GREATEST), (3, 47), (47, 3)):
        asks += [
            (total_of, first, last, base), (figures_in, first, last, base),
            (count_with, first, last, 20, base), (count_with, first, last, 10 ** 6, base),
            (counts_by_rest, first, last, 60, base), (ends_of, first, last, base),
            (records_in, first, last, base), (weighed_total, first, last, IN_TURN, base),
            (weighed_rests, first, last, IN_TURN, 60, base), (count_turned, first, last, 3, base),
            (count_turned, first, last, -10 ** 6, base),
        ]
    return asks


def kept_of(added, taken, base):
    """What a kept number tells behind deeds with these numbers."""
    kept = KeptNumber(base)
    told = []
    for deed, numbers in ((kept.add, added), (kept.less, taken)):
        for number in numbers:
            deed(number)
            told.append((kept.number_now(), kept.sum_now(), kept.carries_now()))
    return told


def lines_of(great, small, base):
    """What a desk tells of numbers that are written in the base."""
    desk = Desk()
    lines = (f"base {base}", f"add {great}", f"less {small}", f"add {small}", "show", "sum", "carries",
             f"total {small} {great}", f"with 0 {great} 20", f"nth 150 {GREATEST}", f"beside {great}",
             f"rests {small} {great} 60", f"ends {small} {great}", "multiple 59 100")
    return [desk.ask(line) for line in lines]


def answer(ask):
    function, *arguments = ask
    try:
        return function(*arguments)
    except SumError as refusal:
        return type(refusal).__name__


class AskedAgainTest(unittest.TestCase):
    def test_the_same_behind_others(self):
        asks = [ask for base in BASES for ask in asks_in(base)]
        forth = [answer(ask) for ask in asks]
        back = [answer(ask) for ask in reversed(asks)]
        for ask, one, other in zip(asks, forth, reversed(back)):
            with self.subTest(function=ask[0].__name__, arguments=ask[1:]):
                self.assertEqual(one, other)

    def test_refused_ones_are_refused_alone(self):
        for base in BASES:
            for ask in asks_in(base):
                with self.subTest(function=ask[0].__name__, arguments=ask[1:]):
                    refused = ask[0] in OF_STRETCHES and ask[1] > ask[2]
                    self.assertEqual(answer(ask) == "NoStretch", refused)


class SomewhatBeyondTest(unittest.TestCase):
    """Beyond the document's limits nothing is promised but that no error is raised."""

    def test_numbers_and_bases(self):
        for base in (2, 10, 17, 20):
            last = 10 ** 31 + 3
            self.assertEqual(count_with(last, last, sum_of(last, base), base), (1, last))
            self.assertEqual(sum(counts_by_rest(0, last, 61, base)), last + 1)
            self.assertEqual(sum(weighed_rests(0, last, (21, -21) * 5, 64, base)), last + 1)
            self.assertEqual(weighed_total(last, last, (21,), base), 21 * sum_of(last, base))
            self.assertEqual(weighed(last, (1,) * 9, base), sum_of(last, base))
            self.assertEqual(ends_of(0, last, base)[1], (0, 0))
            self.assertEqual(len(records_in(0, last, base)), 60)
            self.assertEqual(beside(beside(last, base)[1], base)[0], last)
            self.assertEqual(nth_with(place_of(last, base), sum_of(last, base), base), last)
            self.assertEqual(count_both(0, 2 * FAIR, 2, 61, 62, base), 0)
            self.assertEqual(count_divided(1, 2 * 10 ** 8, base), count_divided(0, 2 * 10 ** 8, base))
            self.assertEqual(count_turned(last, last, turned_sum(last, base), base), 1)
            self.assertEqual(carries_of(last, last - 1, base), carries_of(last - 1, last, base))
            self.assertEqual(pairs_without(base ** 13, base), (base * (base + 1) // 2) ** 13)
            self.assertEqual(least_multiple(61, least_sum(61, base), base) % 61, 0)
            self.assertEqual(sum_of(least_multiple(1, 150, base), base), 150)

    def test_sums(self):
        for told in (-1, 10 ** 6 + 1):
            self.assertEqual(count_with(0, GREATEST, told, 10), (0, 0))
            self.assertEqual(count_both(0, FAIR, told, 60, 0, 10), 0)
            self.assertIsNone(nth_with(0, told, 10))
            self.assertEqual(count_turned(0, GREATEST, 10 ** 6 + told, 10), 0)
        self.assertEqual(count_both(0, FAIR, 1, 1, -1, 10), 0)
        for told in (0, -1):
            self.assertIsNone(least_multiple(7, told, 10))

    def test_great_numbers_that_were_told(self):
        number = nth_with(GREATEST, 150, 2)
        self.assertEqual(place_of(number, 2), GREATEST)
        self.assertEqual(nth_with(GREATEST + 1, 150, 2), beside(number, 2)[1])
        self.assertEqual(nth_with(GREATEST - 1, 150, 2), beside(number, 2)[0])


if __name__ == "__main__":
    unittest.main()
