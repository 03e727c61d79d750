"""Promise 6 (with 1 to 3): totals of stretches, and how often each figure stands there."""

import unittest

from figuresums.errors import NoAsk, NoNumber, NoStretch
from figuresums.figures.written import figures_of, sum_of
from figuresums.stretches.totals import figures_in, total_of

BASES = range(2, 17)
GREATEST = 10 ** 30


def figures_by_going_through(first, last, base):
    counts = [0] * base
    for number in range(first, last + 1):
        for figure in figures_of(number, base):
            counts[figure] += 1
    return tuple(counts)


def total_by_going_through(first, last, base):
    return sum(sum_of(number, base) for number in range(first, last + 1))


def joined(one, other):
    return tuple(left + right for left, right in zip(one, other))


def some_numbers(base):
    numbers = [0, 1, base - 1, base, base * base - 1, base * base, 12345, 10 ** 12]
    return numbers + [base ** 24 - 1, base ** 24, 3 * 7 ** 30, GREATEST - 1, GREATEST]


class GoingThroughTest(unittest.TestCase):
    def told_as_going_through(self, first, last, base):
        with self.subTest(first=first, last=last, base=base):
            figures = figures_by_going_through(first, last, base)
            self.assertEqual(figures_in(first, last, base), figures)
            self.assertEqual(total_of(first, last, base), total_by_going_through(first, last, base))

    def test_all_small_stretches(self):
        for base in BASES:
            for first in range(0, 36):
                for last in range(first, 36):
                    self.told_as_going_through(first, last, base)

    def test_over_powers(self):
        for base in BASES:
            for exponent in (2, 3, 10, 24):
                power = base ** exponent
                for behind in (0, 1, base, 2 * base + 1):
                    self.told_as_going_through(power - base, power - 1, base)
                    self.told_as_going_through(power - base, power + behind, base)
                    self.told_as_going_through(power, power + behind, base)

    def test_from_nought_on(self):
        for base in BASES:
            for last in (0, 1, base - 1, base, base * base, 300, 301):
                self.told_as_going_through(0, last, base)

    def test_up_to_the_greatest(self):
        for base in BASES:
            self.told_as_going_through(GREATEST - 100, GREATEST, base)


class OneNumberTest(unittest.TestCase):
    def test_total_is_its_sum(self):
        for base in BASES:
            for number in some_numbers(base):
                with self.subTest(base=base, number=number):
                    self.assertEqual(total_of(number, number, base), sum_of(number, base))

    def test_figures_are_its_own(self):
        for base in BASES:
            for number in some_numbers(base):
                with self.subTest(base=base, number=number):
                    figures = figures_of(number, base)
                    expected = tuple(figures.count(figure) for figure in range(base))
                    self.assertEqual(figures_in(number, number, base), expected)


class NoughtTest(unittest.TestCase):
    def test_nought_alone(self):
        for base in BASES:
            self.assertEqual(figures_in(0, 0, base), (1,) + (0,) * (base - 1))
            self.assertEqual(total_of(0, 0, base), 0)

    def test_each_figure_once(self):
        for base in BASES:
            self.assertEqual(figures_in(0, base - 1, base), (1,) * base)
            self.assertEqual(figures_in(1, base - 1, base), (0,) + (1,) * (base - 1))

    def test_nought_counts_once_in_the_greatest_stretch(self):
        for base in BASES:
            noughts = figures_in(0, GREATEST, base)[0]
            self.assertEqual(noughts, figures_in(1, GREATEST, base)[0] + 1)


class GreatStretchTest(unittest.TestCase):
    def test_told_examples(self):
        self.assertEqual(total_of(0, 99, 10), 900)
        self.assertEqual(total_of(1, 1000, 10), 13501)
        self.assertEqual(total_of(0, GREATEST, 10), 135 * 10 ** 30 + 1)
        self.assertEqual(figures_in(0, 99, 10), (10,) + (20,) * 9)
        self.assertEqual(figures_in(1, 1000, 10), (192, 301) + (300,) * 8)

    def test_all_numbers_below_a_power(self):
        for base in BASES:
            for exponent in (1, 2, 5, 25, 100):
                with self.subTest(base=base, exponent=exponent):
                    last = base ** exponent - 1
                    each = exponent * base ** (exponent - 1)
                    unwritten = sum(base ** place for place in range(1, exponent))
                    figures = (each - unwritten,) + (each,) * (base - 1)
                    self.assertEqual(figures_in(0, last, base), figures)
                    self.assertEqual(total_of(0, last, base), each * base * (base - 1) // 2)

    def test_parts_come_to_the_whole(self):
        for base in BASES:
            whole = figures_in(0, GREATEST, base)
            total = total_of(0, GREATEST, base)
            for cut in some_numbers(base)[:-1]:
                with self.subTest(base=base, cut=cut):
                    parts = joined(figures_in(0, cut, base), figures_in(cut + 1, GREATEST, base))
                    self.assertEqual(parts, whole)
                    part = total_of(0, cut, base) + total_of(cut + 1, GREATEST, base)
                    self.assertEqual(part, total)

    def test_parts_from_within(self):
        for base in BASES:
            first, cut, last = 10 ** 11 + 3, 5 * 10 ** 20 + 77, 9 * 10 ** 29 + 1
            parts = joined(figures_in(first, cut, base), figures_in(cut + 1, last, base))
            self.assertEqual(figures_in(first, last, base), parts)

    def test_total_is_what_the_figures_come_to(self):
        for base in BASES:
            figures = figures_in(10 ** 9, GREATEST, base)
            expected = sum(figure * count for figure, count in enumerate(figures))
            self.assertEqual(total_of(10 ** 9, GREATEST, base), expected)

    def test_figures_are_a_tuple_of_whole_numbers(self):
        for base in BASES:
            for last in (0, GREATEST):
                figures = figures_in(0, last, base)
                self.assertIs(type(figures), tuple)
                self.assertEqual(len(figures), base)
                for count in figures:
                    self.assertIs(type(count), int)

    def test_same_asked_again(self):
        for _ in range(2):
            self.assertEqual(figures_in(3, 47, 5), figures_by_going_through(3, 47, 5))
            self.assertEqual(total_of(3, 47, 5), total_by_going_through(3, 47, 5))


class RefusedTest(unittest.TestCase):
    def test_first_greater_than_last(self):
        pairs = ((1, 0), (5, 4), (10, 9), (GREATEST, 0), (GREATEST, GREATEST - 1))
        for base in BASES:
            for first, last in pairs:
                for told in (total_of, figures_in):
                    with self.subTest(told=told.__name__, first=first, last=last, base=base):
                        with self.assertRaises(NoStretch) as caught:
                            told(first, last, base)
                        self.assertNotIsInstance(caught.exception, NoAsk)
                        self.assertNotIsInstance(caught.exception, NoNumber)

    def test_refused_even_beyond_what_python_itself_shows(self):
        for told in (total_of, figures_in):
            with self.assertRaises(NoStretch):
                told(10 ** 5000, 0, 10)

    def test_first_and_last_alike_are_a_stretch(self):
        self.assertEqual(total_of(7, 7, 10), 7)
        self.assertEqual(figures_in(7, 7, 8), (0,) * 7 + (1,))


if __name__ == "__main__":
    unittest.main()
