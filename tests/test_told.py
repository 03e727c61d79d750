"""Promises 7 and 8 (with 1 to 3 and 6): the numbers that have a told sum."""

import unittest
from math import comb

from figuresums.errors import NoAsk, NoNumber, NoStretch
from figuresums.stretches.told import beside, count_with, nth_with, place_of
from tests.oracle import BASES, GREATEST, edges_of, figures, plain_sum, refused_stretches
from tests.oracle import small_stretches, states_in, sums_in


def numbers_with(first, last, told, base):
    return [number for number in range(first, last + 1) if plain_sum(number, base) == told]


def by_sums(last, base):
    """The numbers from 0 to last, in their order, by their sums."""
    rows = {}
    for number in range(last + 1):
        rows.setdefault(plain_sum(number, base), []).append(number)
    return rows


def fillings(places, told, base):
    """How many numbers of at most so many figures have the told sum, by a formula."""
    many = 0
    for over in range(told // base + 1):
        taken = comb(places, over) * comb(told - over * base + places - 1, places - 1)
        many += taken * (-1) ** over
    return many


def int_from(row, places, base):
    """The number that has the figures of the row as its greatest places."""
    number = 0
    for figure in row + [0] * (places - len(row)):
        number = number * base + figure
    return number


class CountWithTest(unittest.TestCase):
    def test_told_examples(self):
        self.assertEqual(count_with(0, 99, 9, 10), (10, 495))
        self.assertEqual(count_with(10, 40, 4, 10), (4, 13 + 22 + 31 + 40))
        self.assertEqual(count_with(0, 7, 2, 2), (3, 3 + 5 + 6))
        self.assertEqual(count_with(0, 255, 30, 16), (1, 255))

    def test_few_numbers_by_going_through(self):
        for base in BASES:
            for first, last in small_stretches(base):
                sums = sorted({plain_sum(number, base) for number in range(first, last + 1)})
                for told in sorted({max(sums[0] - 1, 0), *sums[:4], *sums[-4:], sums[-1] + 1, sums[-1] + 2}):
                    with self.subTest(first=first, last=last, told=told, base=base):
                        found = numbers_with(first, last, told, base)
                        pair = (len(found), sum(found))
                        self.assertEqual(count_with(first, last, told, base), pair)

    def test_one_number_alone(self):
        for base in BASES:
            for number in edges_of(base):
                with self.subTest(number=number, base=base):
                    told = plain_sum(number, base)
                    self.assertEqual(count_with(number, number, told, base), (1, number))
                    self.assertEqual(count_with(number, number, told + 1, base), (0, 0))
                    if told > 0:
                        self.assertEqual(count_with(number, number, told - 1, base), (0, 0))

    def test_great_stretches_by_counting_figure_by_figure(self):
        for base in BASES:
            for first, last in ((0, GREATEST), (12345, 3 * 7 ** 30), (10 ** 29 + 7, GREATEST)):
                counts = sums_in(first, last, base)
                for told in range(0, max(counts) + 2, 11):
                    with self.subTest(first=first, last=last, told=told, base=base):
                        many = count_with(first, last, told, base)[0]
                        self.assertEqual(many, counts.get(told, 0))

    def test_all_sums_come_to_all_numbers(self):
        for base in (2, 3, 10, 16):
            for first, last in ((0, GREATEST), (10 ** 11 + 3, 9 * 10 ** 29 + 1)):
                most = (base - 1) * len(figures(last, base))
                pairs = [count_with(first, last, told, base) for told in range(most + 1)]
                many = last - first + 1
                self.assertEqual(sum(count for count, _ in pairs), many)
                self.assertEqual(sum(total for _, total in pairs), many * (first + last) // 2)

    def test_what_great_ones_come_to(self):
        def grow(state, figure, place):
            total, rest = state
            return total + figure, (rest + figure * base ** place) % 97

        for base in (2, 3, 7, 10, 16):
            first, last = 10 ** 5 + 3, 10 ** 17 + 12345
            states = states_in(first, last, base, (0, 0), grow)
            for told in (1, 2, 9, 20, 33):
                with self.subTest(told=told, base=base):
                    rest = sum(count * state[1] for state, count in states.items() if state[0] == told)
                    self.assertEqual(count_with(first, last, told, base)[1] % 97, rest % 97)

    def test_two_places_of_the_base(self):
        for base in BASES:
            last = base ** 18 - 1
            powers = [base ** place for place in range(18)]
            numbers = {one + other for one in powers for other in powers}
            numbers = [number for number in numbers if plain_sum(number, base) == 2]
            self.assertEqual(count_with(0, last, 2, base), (len(numbers), sum(numbers)))
            self.assertEqual(count_with(0, last, 1, base), (18, sum(powers)))

    def test_parts_come_to_the_whole(self):
        for base in BASES:
            for told in (0, 1, 17, 60):
                whole = count_with(0, GREATEST, told, base)
                for cut in edges_of(base)[:-1:2]:
                    with self.subTest(told=told, cut=cut, base=base):
                        one = count_with(0, cut, told, base)
                        other = count_with(cut + 1, GREATEST, told, base)
                        self.assertEqual((one[0] + other[0], one[1] + other[1]), whole)

    def test_sum_that_none_has(self):
        for base in BASES:
            for told in (400, 1000, 10 ** 6):
                for first, last in ((0, 0), (0, GREATEST), (GREATEST, GREATEST), (5, 99)):
                    self.assertEqual(count_with(first, last, told, base), (0, 0))
            self.assertEqual(count_with(base, base + 1, 3, base), (0, 0))
            self.assertEqual(count_with(0, base ** 20 - 1, 20 * (base - 1) + 1, base), (0, 0))
            full = base ** 20 - 1
            self.assertEqual(count_with(0, full, 20 * (base - 1), base), (1, full))

    def test_sum_of_nought(self):
        for base in BASES:
            self.assertEqual(count_with(0, 0, 0, base), (1, 0))
            self.assertEqual(count_with(0, GREATEST, 0, base), (1, 0))
            self.assertEqual(count_with(1, GREATEST, 0, base), (0, 0))

    def test_a_pair_of_whole_numbers(self):
        for base in BASES:
            for told in (0, 7, 10 ** 6):
                pair = count_with(0, GREATEST, told, base)
                self.assertIs(type(pair), tuple)
                self.assertEqual([type(number) for number in pair], [int, int])

    def test_refused(self):
        for base in BASES:
            for first, last in refused_stretches():
                for told in (0, 1, 20, 10 ** 6):
                    with self.subTest(first=first, last=last, told=told, base=base):
                        with self.assertRaises(NoStretch) as caught:
                            count_with(first, last, told, base)
                        self.assertNotIsInstance(caught.exception, (NoAsk, NoNumber))


class NthWithTest(unittest.TestCase):
    def test_told_examples(self):
        self.assertEqual([nth_with(place, 2, 10) for place in range(6)], [2, 11, 20, 101, 110, 200])
        self.assertEqual(nth_with(0, 300, 10), int("3" + "9" * 33))
        self.assertEqual(nth_with(0, 16, 16), 0x1F)

    def test_small_ones_by_going_through(self):
        for base in BASES:
            for told, numbers in by_sums(1500, base).items():
                for place, number in enumerate(numbers):
                    with self.subTest(place=place, told=told, base=base):
                        self.assertEqual(nth_with(place, told, base), number)

    def test_sum_of_nought(self):
        for base in BASES:
            self.assertEqual(nth_with(0, 0, base), 0)
            for place in (1, 2, 199, 200, GREATEST):
                self.assertIsNone(nth_with(place, 0, base))

    def test_sum_of_one_up_to_200_figures(self):
        for base in BASES:
            for place in range(200):
                self.assertEqual(nth_with(place, 1, base), base ** place)
            for place in (200, 201, GREATEST):
                self.assertIsNone(nth_with(place, 1, base))

    def test_behind_the_last_one(self):
        for base in range(3, 17):
            many = comb(200, 2) + 200
            self.assertEqual(nth_with(many - 1, 2, base), 2 * base ** 199)
            self.assertIsNone(nth_with(many, 2, base))
            self.assertIsNone(nth_with(GREATEST, 2, base))
        self.assertEqual(nth_with(comb(200, 2) - 1, 2, 2), 2 ** 199 + 2 ** 198)
        self.assertIsNone(nth_with(comb(200, 2), 2, 2))

    def test_as_full_as_200_figures_can_be(self):
        full = 2 ** 200 - 1
        self.assertEqual(nth_with(0, 200, 2), full)
        self.assertIsNone(nth_with(1, 200, 2))
        self.assertEqual(nth_with(0, 199, 2), 2 ** 199 - 1)
        self.assertEqual(nth_with(1, 199, 2), full - 2 ** 198)
        self.assertEqual(nth_with(199, 199, 2), full - 1)
        self.assertIsNone(nth_with(200, 199, 2))
        for told in range(201, 301):
            self.assertIsNone(nth_with(0, told, 2))
            self.assertIsNone(nth_with(GREATEST, told, 2))

    def test_first_ones_of_all_sums(self):
        for base in range(3, 17):
            for told in list(range(1, 60)) + list(range(60, 300, 13)) + [299, 300]:
                full, rest = divmod(told, base - 1)
                first = (rest + 1) * base ** full - 1
                self.assertEqual(nth_with(0, told, base), first)

    def test_great_places_by_counting_figure_by_figure(self):
        for base in (2, 3, 7, 10, 16):
            for told in (14, 30, 100, 150, 300):
                for place in (10 ** 12, GREATEST):
                    with self.subTest(place=place, told=told, base=base):
                        number = nth_with(place, told, base)
                        if number is None:
                            self.assertLessEqual(fillings(200, told, base), place)
                        else:
                            self.assertEqual(plain_sum(number, base), told)
                            self.assertEqual(sums_in(0, number, base)[told], place + 1)

    def test_last_of_at_most_200_figures(self):
        for base in (2, 3, 10, 16):
            for told in (3, 15, 16, 17):
                many = fillings(200, told, base)
                if many <= 2 * GREATEST:
                    with self.subTest(told=told, base=base):
                        full, rest = divmod(told, base - 1)
                        least = (rest + 1) * base ** full - 1
                        turned = int_from(figures(least, base), 200, base)
                        self.assertEqual(nth_with(many - 1, told, base), turned)
                        self.assertIsNone(nth_with(many, told, base))

    def test_places_and_numbers_lead_to_one_another(self):
        for base in BASES:
            for told in (1, 5, 29, 77, 300):
                for place in (0, 1, 2, 99, 10 ** 5, 10 ** 17, GREATEST):
                    number = nth_with(place, told, base)
                    if number is not None:
                        self.assertEqual(place_of(number, base), place)


class PlaceOfTest(unittest.TestCase):
    def test_small_ones_by_going_through(self):
        for base in BASES:
            for numbers in by_sums(1500, base).values():
                for place, number in enumerate(numbers):
                    with self.subTest(number=number, base=base):
                        self.assertEqual(place_of(number, base), place)

    def test_of_nought_and_powers(self):
        for base in BASES:
            self.assertEqual(place_of(0, base), 0)
            for place in range(25):
                self.assertEqual(place_of(base ** place, base), place)
                self.assertEqual(place_of(base ** place - 1, base), 0)

    def test_great_ones_by_counting_figure_by_figure(self):
        for base in BASES:
            for number in edges_of(base)[1:]:
                with self.subTest(number=number, base=base):
                    counts = sums_in(0, number - 1, base)
                    expected = counts.get(plain_sum(number, base), 0)
                    self.assertEqual(place_of(number, base), expected)

    def test_numbers_lead_to_places_and_back(self):
        for base in BASES:
            for number in edges_of(base):
                with self.subTest(number=number, base=base):
                    told = plain_sum(number, base)
                    self.assertEqual(nth_with(place_of(number, base), told, base), number)


class BesideTest(unittest.TestCase):
    def test_told_examples(self):
        self.assertEqual(beside(18, 10), (9, 27))
        self.assertEqual(beside(11, 10), (2, 20))
        self.assertEqual(beside(9, 10), (None, 18))
        self.assertEqual(beside(200, 10), (110, 1001))
        self.assertEqual(beside(0xF0, 16), (0xE1, 0x10E))

    def test_small_ones_by_going_through(self):
        for base in BASES:
            # Numbers to 299 have at most one figure more in the next greater one.
            for numbers in by_sums(base * max(300, base ** 2), base).values():
                ends = [None] + numbers
                for place, number in enumerate(numbers):
                    if number >= 300:
                        break
                    with self.subTest(number=number, base=base):
                        greater = numbers[place + 1] if number > 0 else None
                        self.assertEqual(beside(number, base), (ends[place], greater))

    def test_none_beside_nought(self):
        for base in BASES:
            self.assertEqual(beside(0, base), (None, None))

    def test_powers_and_next_to_powers(self):
        for base in BASES:
            for place in range(1, 25):
                with self.subTest(place=place, base=base):
                    power = base ** place
                    self.assertEqual(beside(power, base), (power // base, power * base))
                    full = base ** place - 1
                    over = 2 * power - base ** (place - 1) - 1
                    self.assertEqual(beside(full, base), (None, over))

    def test_least_with_their_sum_have_no_lesser_one(self):
        for base in BASES:
            for told in range(1, 80):
                full, rest = divmod(told, base - 1)
                number = (rest + 1) * base ** full - 1
                self.assertIsNone(beside(number, base)[0])
                self.assertEqual(beside(beside(number, base)[1], base)[0], number)

    def test_great_ones_have_none_between(self):
        for base in BASES:
            for number in edges_of(base)[1:]:
                with self.subTest(number=number, base=base):
                    told = plain_sum(number, base)
                    lesser, greater = beside(number, base)
                    self.assertEqual(plain_sum(greater, base), told)
                    self.assertGreater(greater, number)
                    self.assertEqual(sums_in(number, greater, base)[told], 2)
                    if lesser is None:
                        self.assertEqual(sums_in(0, number, base)[told], 1)
                    else:
                        self.assertLess(lesser, number)
                        self.assertEqual(plain_sum(lesser, base), told)
                        self.assertEqual(sums_in(lesser, number, base)[told], 2)

    def test_as_places_tell(self):
        for base in BASES:
            for number in (3 * 7 ** 30, GREATEST - 12345, GREATEST):
                told = plain_sum(number, base)
                place = place_of(number, base)
                around = (nth_with(place - 1, told, base), nth_with(place + 1, told, base))
                self.assertEqual(beside(number, base), around)

    def test_a_pair(self):
        for number in (0, 9, 18, GREATEST):
            self.assertIs(type(beside(number, 10)), tuple)


if __name__ == "__main__":
    unittest.main()
