"""Promises 9 and 10 (with 1 to 3 and 6): rests of sums, told sums with told rests."""

import unittest

from figuresums.errors import NoAsk, NoNumber, NoStretch
from figuresums.stretches.rests import count_both, count_divided, counts_by_rest
from figuresums.stretches.told import count_with
from tests.oracle import BASES, FAIR, GREATEST, edges_of, plain_sum, refused_stretches
from tests.oracle import small_stretches, states_in, sums_in

# How many numbers are divided by their own sum, base by base, from 1 and from 12345678
# on: gone through one by one, by a program apart from this one.
DIVIDED_TO_10_8 = {
    2: 8166390, 3: 9575436, 4: 9214600, 5: 9616584, 6: 7731456, 7: 9932548, 8: 6617946, 9: 8344758,
    10: 6954793, 11: 7834937, 12: 5345724, 13: 8625296, 14: 4615773, 15: 6702522, 16: 6861705,
}
DIVIDED_12345678_TO_87654321 = {
    2: 6093504, 3: 7100430, 4: 6863222, 5: 7169500, 6: 5749544, 7: 7335146, 8: 4961699, 9: 6105246,
    10: 5199523, 11: 5865376, 12: 3986728, 13: 6382056, 14: 3444973, 15: 5034747, 16: 5150024,
}


def rests_by_going_through(first, last, divisor, base):
    counts = [0] * divisor
    for number in range(first, last + 1):
        counts[plain_sum(number, base) % divisor] += 1
    return tuple(counts)


def both_by_going_through(first, last, told, divisor, rest, base):
    numbers = range(first, last + 1)
    return sum(plain_sum(n, base) == told and n % divisor == rest for n in numbers)


def divides_itself(number, base):
    return number % plain_sum(number, base) == 0


def fair_stretches(base):
    """Stretches of few fair numbers."""
    stretches = [pair for pair in small_stretches(base) if pair[1] <= FAIR]
    return stretches + [(FAIR - 40, FAIR), (FAIR - 1, FAIR), (FAIR, FAIR)]


class CountsByRestTest(unittest.TestCase):
    def test_told_examples(self):
        self.assertEqual(counts_by_rest(0, 9, 3, 10), (4, 3, 3))
        self.assertEqual(counts_by_rest(10, 12, 5, 10), (0, 1, 1, 1, 0))
        self.assertEqual(counts_by_rest(0, 7, 2, 2), (4, 4))

    def test_few_numbers_by_going_through(self):
        for base in BASES:
            for place, (first, last) in enumerate(small_stretches(base)):
                for divisor in (1 + place % 60, 60 - place * 7 % 60):
                    with self.subTest(first=first, last=last, divisor=divisor, base=base):
                        expected = rests_by_going_through(first, last, divisor, base)
                        self.assertEqual(counts_by_rest(first, last, divisor, base), expected)

    def test_all_divisors(self):
        for base in BASES:
            counts = sums_in(54321, GREATEST, base)
            for divisor in range(1, 61):
                with self.subTest(divisor=divisor, base=base):
                    expected = [0] * divisor
                    for total, count in counts.items():
                        expected[total % divisor] += count
                    told = counts_by_rest(54321, GREATEST, divisor, base)
                    self.assertEqual(told, tuple(expected))

    def test_one_number_alone(self):
        for base in BASES:
            for number in edges_of(base):
                for divisor in (1, 2, 7, 60):
                    expected = [0] * divisor
                    expected[plain_sum(number, base) % divisor] = 1
                    told = counts_by_rest(number, number, divisor, base)
                    self.assertEqual(told, tuple(expected))

    def test_by_the_base_less_one_rests_are_those_of_the_numbers(self):
        for base in BASES:
            told = counts_by_rest(0, GREATEST, base - 1, base)
            rounds, rest = divmod(GREATEST + 1, base - 1)
            self.assertEqual(told, (rounds + 1,) * rest + (rounds,) * (base - 1 - rest))

    def test_parts_come_to_the_whole(self):
        for base in BASES:
            for divisor in (3, 59):
                whole = counts_by_rest(0, GREATEST, divisor, base)
                for cut in edges_of(base)[:-1:2]:
                    with self.subTest(divisor=divisor, cut=cut, base=base):
                        one = counts_by_rest(0, cut, divisor, base)
                        other = counts_by_rest(cut + 1, GREATEST, divisor, base)
                        self.assertEqual(tuple(map(sum, zip(one, other))), whole)

    def test_a_tuple_with_a_count_for_each_rest(self):
        for base in (2, 10, 16):
            for divisor in range(1, 61):
                for last in (0, GREATEST):
                    told = counts_by_rest(0, last, divisor, base)
                    self.assertIs(type(told), tuple)
                    self.assertEqual(len(told), divisor)
                    self.assertEqual({type(count) for count in told}, {int})
                    self.assertEqual(sum(told), last + 1)

    def test_refused(self):
        for base in BASES:
            for first, last in refused_stretches():
                for divisor in (1, 60):
                    with self.subTest(first=first, last=last, divisor=divisor, base=base):
                        with self.assertRaises(NoStretch) as caught:
                            counts_by_rest(first, last, divisor, base)
                        self.assertNotIsInstance(caught.exception, (NoAsk, NoNumber))


class CountBothTest(unittest.TestCase):
    def test_told_examples(self):
        self.assertEqual(count_both(0, 99, 9, 9, 0, 10), 10)
        self.assertEqual(count_both(0, 99, 9, 10, 3, 10), 1)
        self.assertEqual(count_both(1, 100, 3, 4, 1, 10), 1)
        self.assertEqual(count_both(0, 0, 0, 1, 0, 2), 1)

    def test_few_numbers_by_going_through(self):
        for base in BASES:
            for place, (first, last) in enumerate(fair_stretches(base)):
                told = plain_sum(first + place * 5 % (last - first + 1), base)
                divisor = 1 + place * 11 % 60
                for rest in sorted({0, first % divisor, last % divisor, divisor - 1}):
                    with self.subTest(first=first, last=last, told=told, divisor=divisor, rest=rest, base=base):
                        expected = both_by_going_through(first, last, told, divisor, rest, base)
                        self.assertEqual(count_both(first, last, told, divisor, rest, base), expected)

    def test_all_small_asks(self):
        for base in (2, 3, 10, 16):
            for divisor in (1, 2, 3, 6, 7):
                for told in range(0, 12):
                    for rest in range(divisor):
                        expected = both_by_going_through(3, 90, told, divisor, rest, base)
                        self.assertEqual(count_both(3, 90, told, divisor, rest, base), expected)

    def test_great_stretches_by_counting_figure_by_figure(self):
        for base in BASES:
            divisor = 60 - base
            first, last = 123456, FAIR - 5 * base

            def grow(state, figure, place):
                total, rest = state
                return total + figure, (rest + figure * base ** place) % divisor

            states = states_in(first, last, base, (0, 0), grow)
            for told in (1, 3, 11, 20, 40, 60, 91):
                for rest in range(0, divisor, 9):
                    with self.subTest(told=told, divisor=divisor, rest=rest, base=base):
                        expected = states.get((told, rest), 0)
                        self.assertEqual(count_both(first, last, told, divisor, rest, base), expected)

    def test_all_divisors_at_the_greatest(self):
        for base in BASES:
            for divisor in range(1, 61):
                with self.subTest(divisor=divisor, base=base):
                    rest = FAIR % divisor
                    told = plain_sum(FAIR, base)
                    self.assertEqual(count_both(FAIR, FAIR, told, divisor, rest, base), 1)
                    self.assertEqual(count_both(FAIR, FAIR, told + 1, divisor, rest, base), 0)
                    if divisor > 1:
                        other = (rest + 1) % divisor
                        self.assertEqual(count_both(FAIR, FAIR, told, divisor, other, base), 0)

    def test_all_rests_come_to_all_with_the_sum(self):
        for base in BASES:
            for told in (1, 9, 17):
                for divisor in (1, 7, 24):
                    rests = range(divisor)
                    many = sum(count_both(5, FAIR, told, divisor, rest, base) for rest in rests)
                    self.assertEqual(many, count_with(5, FAIR, told, base)[0])

    def test_parts_come_to_the_whole(self):
        for base in BASES:
            whole = count_both(0, FAIR, 12, 35, 4, base)
            for cut in (0, 1, base ** 6 - 1, base ** 6, 98765, FAIR - 1):
                parts = count_both(0, cut, 12, 35, 4, base) + count_both(cut + 1, FAIR, 12, 35, 4, base)
                self.assertEqual(parts, whole)

    def test_rest_no_less_than_the_divisor(self):
        for base in BASES:
            for divisor in (1, 2, 59, 60):
                for rest in (divisor, divisor + 1, 2 * divisor, 10 ** 6):
                    for first, last in ((0, FAIR), (0, 0), (1, 1), (60, 60)):
                        self.assertEqual(count_both(first, last, 1, divisor, rest, base), 0)

    def test_sum_that_none_has(self):
        for base in BASES:
            for told in (400, 10 ** 6):
                self.assertEqual(count_both(0, FAIR, told, 60, 0, base), 0)
                self.assertEqual(count_both(0, FAIR, told, 1, 0, base), 0)
            self.assertEqual(count_both(0, base ** 8 - 1, 8 * (base - 1) + 1, 1, 0, base), 0)
            self.assertEqual(count_both(0, base ** 8 - 1, 8 * (base - 1), 1, 0, base), 1)

    def test_sum_of_nought(self):
        for base in BASES:
            self.assertEqual(count_both(0, FAIR, 0, 60, 0, base), 1)
            self.assertEqual(count_both(0, FAIR, 0, 60, 1, base), 0)
            self.assertEqual(count_both(1, FAIR, 0, 60, 0, base), 0)

    def test_refused(self):
        for base in BASES:
            for first, last in refused_stretches():
                for told, divisor, rest in ((1, 5, 0), (10 ** 6, 5, 0), (1, 5, 5), (10 ** 6, 1, 60)):
                    with self.subTest(first=first, last=last, told=told, rest=rest, base=base):
                        with self.assertRaises(NoStretch) as caught:
                            count_both(first, last, told, divisor, rest, base)
                        self.assertNotIsInstance(caught.exception, (NoAsk, NoNumber))


class CountDividedTest(unittest.TestCase):
    def test_told_examples(self):
        self.assertEqual(count_divided(1, 10, 10), 10)
        self.assertEqual(count_divided(11, 20, 10), 3)
        self.assertEqual(count_divided(1, 100, 10), 33)
        self.assertEqual(count_divided(1, 1000, 10), 213)

    def test_stretches_from_one_on_by_going_through(self):
        for base in BASES:
            many = 0
            for last in range(1, 300):
                many += divides_itself(last, base)
                if last < 2 * base + 3 or last % 10 == 0 or last % base in (0, base - 1):
                    self.assertEqual(count_divided(1, last, base), many)

    def test_few_numbers_by_going_through(self):
        for base in BASES:
            stretches = [pair for pair in small_stretches(base) if 0 < pair[0] and pair[1] <= 10 ** 8]
            for first, last in stretches[::3] + [(10 ** 8 - 99, 10 ** 8), (10 ** 8 - 1, 10 ** 8)]:
                with self.subTest(first=first, last=last, base=base):
                    many = sum(divides_itself(number, base) for number in range(first, last + 1))
                    self.assertEqual(count_divided(first, last, base), many)

    def test_one_number_alone(self):
        for base in BASES:
            for number in (1, base, base + 1, 999, 12 * base ** 3, 10 ** 8 - 1, 10 ** 8):
                expected = int(divides_itself(number, base))
                self.assertEqual(count_divided(number, number, base), expected)

    def test_greatest_stretches(self):
        for base in BASES:
            with self.subTest(base=base):
                self.assertEqual(count_divided(1, 10 ** 8, base), DIVIDED_TO_10_8[base])
                within = DIVIDED_12345678_TO_87654321[base]
                self.assertEqual(count_divided(12345678, 87654321, base), within)

    def test_parts_come_to_the_whole(self):
        for base in (2, 7, 10):
            for cut in (1, base ** 4 - 1, base ** 4, 10 ** 7 + 3):
                parts = count_divided(1, cut, base) + count_divided(cut + 1, 10 ** 8, base)
                self.assertEqual(parts, DIVIDED_TO_10_8[base])

    def test_refused(self):
        for base in BASES:
            for first, last in ((2, 1), (10, 9), (10 ** 8, 1), (10 ** 8, 10 ** 8 - 1)):
                with self.assertRaises(NoStretch) as caught:
                    count_divided(first, last, base)
                self.assertNotIsInstance(caught.exception, (NoAsk, NoNumber))


if __name__ == "__main__":
    unittest.main()
