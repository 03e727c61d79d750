"""Promises 15 and 16 (with 1 to 3 and 6): carries of adding, figures added and taken away in turn."""

import unittest

from figuresums.errors import NoAsk, NoNumber, NoStretch
from figuresums.figures.carries import carries_of, count_turned, pairs_without, turned_sum
from figuresums.figures.written import sum_of
from figuresums.others.weights import weighed_rests, weighed_total
from tests.oracle import BASES, FAIR, GREATEST, carries_by_adding, drawn_numbers, edges_of, figures
from tests.oracle import refused_stretches, small_stretches, states_in, weighed_sum


def turned(number, base):
    return weighed_sum(number, (1, -1), base)


def pairs_by_going_through(bound, base):
    numbers = range(bound)
    return sum(carries_by_adding(one, other, base) == 0 for one in numbers for other in numbers)


def pairs_figure_by_figure(bound, base):
    """The pairs without a carry, counted from the greatest place on, with all pairs of figures."""
    counts = {(True, True): 1}
    for edge in reversed(figures(bound, base)):
        grown = {}
        for (one_at, other_at), count in counts.items():
            for one in range(edge + 1 if one_at else base):
                for other in range(edge + 1 if other_at else base):
                    if one + other < base:
                        state = (one_at and one == edge, other_at and other == edge)
                        grown[state] = grown.get(state, 0) + count
        counts = grown
    return counts.get((False, False), 0)


class CarriesOfTest(unittest.TestCase):
    def test_told_examples(self):
        self.assertEqual(carries_of(999, 1, 10), 3)
        self.assertEqual(carries_of(5, 5, 10), 1)
        self.assertEqual(carries_of(123, 456, 10), 0)
        self.assertEqual(carries_of(909, 101, 10), 2)
        self.assertEqual(carries_of(0xFF, 0x01, 16), 2)
        self.assertEqual(carries_of(7, 1, 2), 3)
        self.assertEqual(carries_of(0, 0, 2), 0)

    def test_all_small_pairs_by_adding(self):
        for base in BASES:
            for one in range(60):
                for other in range(60):
                    expected = carries_by_adding(one, other, base)
                    self.assertEqual(carries_of(one, other, base), expected)

    def test_edges_by_adding(self):
        for base in BASES:
            numbers = edges_of(base)
            for one in numbers:
                for other in numbers:
                    with self.subTest(one=one, other=other, base=base):
                        expected = carries_by_adding(one, other, base)
                        self.assertEqual(carries_of(one, other, base), expected)
                        self.assertEqual(carries_of(other, one, base), expected)

    def test_drawn_pairs_by_adding(self):
        for base in BASES:
            for one, other in zip(drawn_numbers(200, GREATEST, base), drawn_numbers(200, GREATEST, 99)):
                expected = carries_by_adding(one, other, base)
                self.assertEqual(carries_of(one, other, base), expected)
                self.assertEqual(carries_of(other, one, base), expected)

    def test_nought_makes_none(self):
        for base in BASES:
            for number in edges_of(base) + drawn_numbers(50, GREATEST, base):
                self.assertEqual(carries_of(number, 0, base), 0)
                self.assertEqual(carries_of(0, number, base), 0)

    def test_sums_that_are_powers(self):
        for base in BASES:
            for power in range(1, 25):
                whole = base ** power
                self.assertEqual(carries_of(whole - 1, 1, base), power)
                self.assertEqual(carries_of(1, whole - 1, base), power)
                for one in (base, whole // 2, whole // base, 12345 % whole):
                    if 0 < one < whole:
                        expected = carries_by_adding(one, whole - one, base)
                        self.assertEqual(carries_of(one, whole - one, base), expected)
                        self.assertEqual(carries_of(whole - one, one, base), expected)

    def test_as_often_as_the_sums_are_more(self):
        for base in BASES:
            for one, other in zip(drawn_numbers(50, GREATEST, 3), drawn_numbers(50, GREATEST, base)):
                more = sum_of(one, base) + sum_of(other, base) - sum_of(one + other, base)
                self.assertEqual(carries_of(one, other, base) * (base - 1), more)


class PairsWithoutTest(unittest.TestCase):
    def test_told_examples(self):
        self.assertEqual(pairs_without(10, 10), 55)
        self.assertEqual(pairs_without(100, 10), 55 * 55)
        self.assertEqual(pairs_without(4, 2), 9)
        self.assertEqual(pairs_without(2, 10), 4)

    def test_bounds_that_leave_none_or_one(self):
        for base in BASES:
            self.assertEqual(pairs_without(0, base), 0)
            self.assertEqual(pairs_without(1, base), 1)

    def test_small_bounds_by_going_through(self):
        for base in BASES:
            for bound in list(range(35)) + [base ** 2 // 3, 77]:
                with self.subTest(bound=bound, base=base):
                    self.assertEqual(pairs_without(bound, base), pairs_by_going_through(bound, base))

    def test_each_more_brings_its_pairs(self):
        for base in BASES:
            many = 0
            for bound in range(1, 300):
                newest = bound - 1
                with_newest = sum(carries_by_adding(newest, n, base) == 0 for n in range(newest))
                many += 2 * with_newest + (carries_by_adding(newest, newest, base) == 0)
                self.assertEqual(pairs_without(bound, base), many)

    def test_powers_and_next_to_them(self):
        for base in BASES:
            power, pairs = base, base * (base + 1) // 2
            while power <= FAIR:
                with self.subTest(power=power, base=base):
                    full = pairs_without(power, base)
                    self.assertEqual(full, pairs)
                    # The last number before the power goes with 0 alone, the power itself
                    # with all lesser numbers, and with itself but by 2.
                    self.assertEqual(pairs_without(power - 1, base), full - 2)
                    self.assertEqual(pairs_without(power + 1, base), full + 2 * power + (base > 2))
                power *= base
                pairs *= base * (base + 1) // 2

    def test_great_bounds_figure_by_figure(self):
        for base in BASES:
            for bound in [FAIR, FAIR - 1, FAIR // 2, FAIR // 7] + drawn_numbers(25, FAIR, base):
                with self.subTest(bound=bound, base=base):
                    expected = pairs_figure_by_figure(bound, base)
                    self.assertEqual(pairs_without(bound, base), expected)


class TurnedSumTest(unittest.TestCase):
    def test_told_examples(self):
        self.assertEqual(turned_sum(123, 10), 3 - 2 + 1)
        self.assertEqual(turned_sum(90, 10), -9)
        self.assertEqual(turned_sum(0xF1, 16), 1 - 15)
        self.assertEqual(turned_sum(6, 2), 0 - 1 + 1)
        self.assertEqual(turned_sum(0, 10), 0)

    def test_numbers_to_the_greatest(self):
        for base in BASES:
            for number in list(range(300)) + edges_of(base) + drawn_numbers(50, GREATEST, base):
                with self.subTest(number=number, base=base):
                    self.assertEqual(turned_sum(number, base), turned(number, base))

    def test_one_figure_by_places(self):
        for base in BASES:
            for place in range(24):
                self.assertEqual(turned_sum(base ** place, base), (-1) ** place)
                self.assertEqual(turned_sum((base - 1) * base ** place, base), (base - 1) * (-1) ** place)


class CountTurnedTest(unittest.TestCase):
    def test_told_examples(self):
        self.assertEqual(count_turned(0, 99, 0, 10), 10)
        self.assertEqual(count_turned(0, 99, -9, 10), 1)
        self.assertEqual(count_turned(0, 99, 9, 10), 1)
        self.assertEqual(count_turned(0, 99, 10, 10), 0)
        self.assertEqual(count_turned(100, 110, 1, 10), 1)

    def test_few_numbers_by_going_through(self):
        for base in BASES:
            for first, last in small_stretches(base):
                counts = {}
                for number in range(first, last + 1):
                    counts[turned(number, base)] = counts.get(turned(number, base), 0) + 1
                asked = set(counts) | {0, 1, -1, min(counts) - 1, max(counts) + 1}
                for told in list(asked)[::1 if last < 8 else 4]:
                    with self.subTest(first=first, last=last, told=told, base=base):
                        self.assertEqual(count_turned(first, last, told, base), counts.get(told, 0))

    def test_one_number_alone(self):
        for base in BASES:
            for number in edges_of(base):
                told = turned(number, base)
                for other in (told - 1, told, told + 1, -told):
                    with self.subTest(number=number, other=other, base=base):
                        expected = int(other == told)
                        self.assertEqual(count_turned(number, number, other, base), expected)

    def test_great_stretches_by_counting_figure_by_figure(self):
        for base in BASES:
            stretches = [(0, GREATEST), (0, GREATEST - 1), (54321, 10 ** 29 + 7), (0, base ** 7 - 1)]
            for first, last in stretches + [(1, base ** 20), (base ** 11, 3 * base ** 12 + 5)]:
                counts = states_in(first, last, base, 0, lambda total, figure, place:
                                   total + figure * (-1) ** place)
                for told in list(range(-12, 13, 3)) + [min(counts), max(counts)]:
                    with self.subTest(first=first, last=last, told=told, base=base):
                        expected = counts.get(told, 0)
                        self.assertEqual(count_turned(first, last, told, base), expected)
                for told in (min(counts) - 1, max(counts) + 1, 400, -400, 10 ** 6, -10 ** 6):
                    self.assertEqual(count_turned(first, last, told, base), 0)

    def test_all_of_them_come_to_the_stretch(self):
        for base in BASES:
            first, last = 777, 10 ** 21 + base
            counts = {told: count_turned(first, last, told, base) for told in range(-350, 351)}
            self.assertEqual(sum(counts.values()), last - first + 1)
            together = sum(told * count for told, count in counts.items())
            self.assertEqual(together, weighed_total(first, last, (1, -1), base))
            rests = [0] * 7
            for told, count in counts.items():
                rests[told % 7] += count
            self.assertEqual(tuple(rests), weighed_rests(first, last, (1, -1), 7, base))

    def test_parts_come_to_the_whole(self):
        for base in BASES:
            for told in (-5, 0, 1, 4):
                whole = count_turned(0, GREATEST, told, base)
                for cut in edges_of(base)[:-1]:
                    with self.subTest(told=told, cut=cut, base=base):
                        one = count_turned(0, cut, told, base)
                        other = count_turned(cut + 1, GREATEST, told, base)
                        self.assertEqual(one + other, whole)

    def test_refused(self):
        for base in BASES:
            for first, last in refused_stretches():
                for told in (0, -3, 10 ** 6, -10 ** 6):
                    with self.subTest(first=first, last=last, told=told, base=base):
                        with self.assertRaises(NoStretch) as caught:
                            count_turned(first, last, told, base)
                        self.assertNotIsInstance(caught.exception, (NoAsk, NoNumber))


if __name__ == "__main__":
    unittest.main()
