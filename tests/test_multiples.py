"""Promise 14 (with 1 and 2): the least multiple with a told sum, and the least sum of all."""

import unittest

from figuresums.others.multiples import least_multiple, least_sum
from tests.oracle import BASES, least_multiples, plain_sum

DIVISORS = range(1, 61)
SUMS = range(1, 101)


def least_by_going_through(divisor, base, many):
    """For each sum the least of the first multiples that has it."""
    found = {}
    for multiple in range(divisor, divisor * (many + 1), divisor):
        found.setdefault(plain_sum(multiple, base), multiple)
    return found


class LeastMultipleTest(unittest.TestCase):
    def test_told_examples(self):
        self.assertEqual(least_multiple(7, 2, 10), 1001)
        self.assertEqual(least_multiple(12, 6, 10), 24)
        self.assertEqual(least_multiple(60, 3, 10), 120)
        self.assertEqual(least_multiple(3, 2, 2), 3)
        self.assertEqual(least_multiple(17, 2, 16), 0x11)
        self.assertIsNone(least_multiple(11, 1, 10))
        self.assertIsNone(least_multiple(3, 1, 2))
        self.assertIsNone(least_multiple(9, 10, 10))

    def test_by_one_the_least_number_with_the_sum(self):
        for base in BASES:
            for told in SUMS:
                full, head = divmod(told, base - 1)
                self.assertEqual(least_multiple(1, told, base), (head + 1) * base ** full - 1)

    def test_small_ones_by_going_through(self):
        for base in BASES:
            for divisor in DIVISORS:
                found = least_by_going_through(divisor, base, 400)
                for told in range(1, 16):
                    with self.subTest(divisor=divisor, told=told, base=base):
                        number = least_multiple(divisor, told, base)
                        if told in found:
                            self.assertEqual(number, found[told])
                        elif number is not None:
                            self.assertGreater(number, 400 * divisor)

    def test_all_by_taking_numbers_in_their_order(self):
        for base in BASES:
            for divisor in DIVISORS:
                found = least_multiples(divisor, base, 100)
                for told in SUMS:
                    number = least_multiple(divisor, told, base)
                    if number != found.get(told):
                        self.fail((divisor, told, base, number, found.get(told)))

    def test_what_is_told_is_divided_and_has_the_sum(self):
        for base in BASES:
            for divisor in DIVISORS:
                number = least_multiple(divisor, 100, base)
                if number is not None:
                    self.assertEqual(number % divisor, 0)
                    self.assertEqual(plain_sum(number, base), 100)

    def test_none_where_sums_have_other_rests(self):
        # By a divisor of the base less 1 a number and its sum have the same rest.
        for base in BASES:
            for divisor in DIVISORS:
                if divisor > 1 and (base - 1) % divisor == 0:
                    for told in (1, divisor - 1, divisor + 1, 6 * divisor + 1):
                        self.assertIsNone(least_multiple(divisor, told, base))
                    self.assertIsNotNone(least_multiple(divisor, 6 * divisor, base))

    def test_by_powers_of_the_base_noughts_stand_behind(self):
        for base in BASES:
            for told in (1, 5, 99, 100):
                number = least_multiple(base, told, base)
                self.assertEqual(number, base * least_multiple(1, told, base))


class LeastSumTest(unittest.TestCase):
    def test_told_examples(self):
        self.assertEqual(least_sum(1, 10), 1)
        self.assertEqual(least_sum(7, 10), 2)
        self.assertEqual(least_sum(9, 10), 9)
        self.assertEqual(least_sum(41, 10), 5)
        self.assertEqual(least_sum(60, 10), 3)
        self.assertEqual(least_sum(31, 2), 5)

    def test_by_going_through(self):
        for base in BASES:
            for divisor in DIVISORS:
                with self.subTest(divisor=divisor, base=base):
                    found = least_by_going_through(divisor, base, 400)
                    told = least_sum(divisor, base)
                    if told in found:
                        self.assertEqual(told, min(found))
                    else:
                        # The multiple with this sum is none of the first ones.
                        self.assertLess(told, min(found))
                        self.assertGreater(least_multiple(divisor, told, base), 400 * divisor)

    def test_by_taking_numbers_in_their_order(self):
        for base in BASES:
            for divisor in DIVISORS:
                with self.subTest(divisor=divisor, base=base):
                    self.assertEqual(least_sum(divisor, base), min(least_multiples(divisor, base, 60)))

    def test_a_multiple_has_it_and_none_has_less(self):
        for base in BASES:
            for divisor in DIVISORS:
                with self.subTest(divisor=divisor, base=base):
                    told = least_sum(divisor, base)
                    number = least_multiple(divisor, told, base)
                    self.assertEqual(number % divisor, 0)
                    self.assertEqual(plain_sum(number, base), told)
                    for lesser in range(1, told):
                        self.assertIsNone(least_multiple(divisor, lesser, base))

    def test_powers_of_the_base_divide_one_with_noughts(self):
        for base in BASES:
            power = 1
            while power <= 60:
                self.assertEqual(least_sum(power, base), 1)
                power *= base


class KindsTest(unittest.TestCase):
    def test_whole_numbers_or_none(self):
        for base in (2, 10, 16):
            for divisor in DIVISORS:
                self.assertIs(type(least_sum(divisor, base)), int)
                for told in (1, 2, 50, 100):
                    number = least_multiple(divisor, told, base)
                    self.assertIn(type(number), (int, type(None)))


if __name__ == "__main__":
    unittest.main()
