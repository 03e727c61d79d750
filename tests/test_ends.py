"""Promises 11 and 12 (with 1 to 3 and 6): greatest and least sums, and new greatest ones."""

import unittest

from figuresums.errors import NoAsk, NoNumber, NoStretch
from figuresums.stretches.ends import ends_of, records_in
from tests.oracle import BASES, GREATEST, edges_of, plain_sum, refused_stretches
from tests.oracle import small_stretches, sums_in


def ends_by_going_through(first, last, base):
    greatest = least = (plain_sum(first, base), first)
    for number in range(first, last + 1):
        total = plain_sum(number, base)
        if total > greatest[0]:
            greatest = (total, number)
        if total < least[0]:
            least = (total, number)
    return greatest, least


def records_to(last, base):
    """The numbers from 0 to last that have a greater sum than all before, by going through."""
    records, most = [], -1
    for number in range(last + 1):
        total = plain_sum(number, base)
        if total > most:
            records.append(number)
            most = total
    return records


def great_records(base):
    """The numbers to 10 ** 30 that have a greater sum than all before, by a formula.

    The next number has at most 1 more, so that no sum is left out: they are the least
    numbers with each sum.
    """
    records, told = [], 0
    while True:
        full, rest = divmod(told, base - 1)
        record = (rest + 1) * base ** full - 1
        if record > GREATEST:
            return records
        records.append(record)
        told += 1


class EndsTest(unittest.TestCase):
    def test_told_examples(self):
        self.assertEqual(ends_of(0, 99, 10), ((18, 99), (0, 0)))
        self.assertEqual(ends_of(10, 30, 10), ((11, 29), (1, 10)))
        self.assertEqual(ends_of(95, 102, 10), ((18, 99), (1, 100)))
        self.assertEqual(ends_of(4, 6, 2), ((2, 5), (1, 4)))

    def test_few_numbers_by_going_through(self):
        for base in BASES:
            for first, last in small_stretches(base):
                with self.subTest(first=first, last=last, base=base):
                    expected = ends_by_going_through(first, last, base)
                    self.assertEqual(ends_of(first, last, base), expected)

    def test_first_of_several(self):
        self.assertEqual(ends_of(18, 28, 10), ((10, 19), (2, 20)))
        self.assertEqual(ends_of(19, 28, 10), ((10, 19), (2, 20)))
        self.assertEqual(ends_of(20, 28, 10), ((10, 28), (2, 20)))
        self.assertEqual(ends_of(90, 180, 10), ((18, 99), (1, 100)))
        self.assertEqual(ends_of(11, 22, 10), ((10, 19), (2, 11)))
        self.assertEqual(ends_of(9, 18, 10), ((9, 9), (1, 10)))
        self.assertEqual(ends_of(1, 1000, 10), ((27, 999), (1, 1)))
        self.assertEqual(ends_of(2, 1000, 10), ((27, 999), (1, 10)))

    def test_one_number_alone(self):
        for base in BASES:
            for number in edges_of(base):
                pair = (plain_sum(number, base), number)
                self.assertEqual(ends_of(number, number, base), (pair, pair))

    def test_from_nought_on(self):
        for base in BASES:
            self.assertEqual(ends_of(0, 0, base), ((0, 0), (0, 0)))
            self.assertEqual(ends_of(0, GREATEST, base)[1], (0, 0))
            self.assertEqual(ends_of(1, GREATEST, base)[1], (1, 1))
            for places in (1, 2, 7, 24):
                full = base ** places - 1
                self.assertEqual(ends_of(0, full, base), ((places * (base - 1), full), (0, 0)))

    def test_to_the_greatest_number(self):
        self.assertEqual(ends_of(1, GREATEST, 10), ((270, GREATEST - 1), (1, 1)))
        self.assertEqual(ends_of(2, GREATEST, 10), ((270, GREATEST - 1), (1, 10)))
        self.assertEqual(ends_of(GREATEST, GREATEST, 10), ((1, GREATEST), (1, GREATEST)))
        self.assertEqual(ends_of(GREATEST - 1, GREATEST, 10), ((270, GREATEST - 1), (1, GREATEST)))
        self.assertEqual(ends_of(0, 2 ** 99 + 5, 2), ((99, 2 ** 99 - 1), (0, 0)))

    def test_great_stretches_by_counting_figure_by_figure(self):
        for base in BASES:
            numbers = sorted(edges_of(base))
            for first, last in zip(numbers, numbers[1:]):
                with self.subTest(first=first, last=last, base=base):
                    (high, highest), (low, lowest) = ends_of(first, last, base)
                    counts = sums_in(first, last, base)
                    had = [total for total, count in counts.items() if count > 0]
                    self.assertEqual((high, low), (max(had), min(had)))
                    for total, number in ((high, highest), (low, lowest)):
                        self.assertEqual(plain_sum(number, base), total)
                        self.assertTrue(first <= number <= last)
                        self.assertEqual(sums_in(first, number, base)[total], 1)

    def test_parts_come_to_the_whole(self):
        for base in BASES:
            first, last = 345, 3 * 7 ** 30
            (high, highest), (low, lowest) = ends_of(first, last, base)
            for cut in (99999, base ** 9 - 1, base ** 9, 10 ** 21):
                one = ends_of(first, cut, base)
                other = ends_of(cut + 1, last, base)
                greatest = min((-part[0][0], part[0][1]) for part in (one, other))
                self.assertEqual(greatest, (-high, highest))
                self.assertEqual(min(one[1], other[1]), (low, lowest))

    def test_a_pair_of_pairs(self):
        for first, last in ((0, 0), (7, 7), (0, GREATEST), (5, 1234)):
            told = ends_of(first, last, 10)
            self.assertIs(type(told), tuple)
            self.assertEqual([type(pair) for pair in told], [tuple, tuple])
            self.assertEqual([len(pair) for pair in told], [2, 2])

    def test_refused(self):
        for base in BASES:
            for first, last in refused_stretches():
                with self.subTest(first=first, last=last, base=base):
                    with self.assertRaises(NoStretch) as caught:
                        ends_of(first, last, base)
                    self.assertNotIsInstance(caught.exception, (NoAsk, NoNumber))


class RecordsTest(unittest.TestCase):
    def test_told_examples(self):
        self.assertEqual(records_in(0, 9, 10), tuple(range(10)))
        self.assertEqual(records_in(5, 50, 10), (5, 6, 7, 8, 9, 19, 29, 39, 49))
        self.assertEqual(records_in(0, 40, 2), (0, 1, 3, 7, 15, 31))

    def test_small_stretches_by_going_through(self):
        for base in BASES:
            records = records_to(100, base)
            for first in range(101):
                for last in range(first, 101):
                    expected = tuple([one for one in records if first <= one <= last])
                    self.assertEqual(records_in(first, last, base), expected)

    def test_longer_stretches_by_going_through(self):
        for base in BASES:
            records = records_to(5000, base)
            self.assertLess(len(records), 60)
            self.assertEqual(records_in(0, 5000, base), tuple(records))

    def test_nought_is_among_them(self):
        for base in BASES:
            self.assertEqual(records_in(0, 0, base), (0,))
            self.assertEqual(records_in(0, 1, base), (0, 1))
            self.assertEqual(records_in(1, 1, base), (1,))
            self.assertEqual(records_in(base, base, base), ())

    def test_begin_or_end_at_one_or_next_to_one(self):
        for base in BASES:
            records = great_records(base)
            for place in range(1, len(records) - 1):
                before, record, behind = records[place - 1:place + 2]
                with self.subTest(record=record, base=base):
                    self.assertEqual(records_in(record, record, base), (record,))
                    self.assertEqual(records_in(record - 1, record, base)[-1], record)
                    self.assertEqual(records_in(before + 1, record, base), (record,))
                    self.assertEqual(records_in(before + 1, behind - 1, base), (record,))
                    self.assertEqual(records_in(record, behind - 1, base), (record,))
                    self.assertEqual(records_in(record, behind, base), (record, behind))
                    self.assertEqual(records_in(record + 1, behind, base), (behind,))
                    if behind - 1 > record:
                        self.assertEqual(records_in(record + 1, behind - 1, base), ())

    def test_more_than_sixty(self):
        for base in BASES:
            records = great_records(base)
            self.assertGreater(len(records), 62)
            for place in (0, 1, 2, len(records) - 60, len(records) - 59, len(records) - 1):
                with self.subTest(place=place, base=base):
                    expected = tuple(records[place:place + 60])
                    self.assertEqual(records_in(records[place], GREATEST, base), expected)
                    if place > 0:
                        within = records_in(records[place - 1] + 1, GREATEST, base)
                        self.assertEqual(within, expected)
            self.assertEqual(records_in(0, records[59], base), tuple(records[:60]))
            self.assertEqual(records_in(0, records[60], base), tuple(records[:60]))
            self.assertEqual(records_in(0, records[60] - 1, base), tuple(records[:60]))
            self.assertEqual(records_in(0, records[59] - 1, base), tuple(records[:59]))

    def test_none_at_the_greatest_number(self):
        self.assertEqual(records_in(GREATEST, GREATEST, 10), ())
        self.assertEqual(records_in(GREATEST - 1, GREATEST, 10), (GREATEST - 1,))

    def test_a_tuple(self):
        for first, last in ((0, 0), (10, 10), (0, GREATEST)):
            self.assertIs(type(records_in(first, last, 10)), tuple)

    def test_refused(self):
        for base in BASES:
            for first, last in refused_stretches():
                with self.subTest(first=first, last=last, base=base):
                    with self.assertRaises(NoStretch) as caught:
                        records_in(first, last, base)
                    self.assertNotIsInstance(caught.exception, (NoAsk, NoNumber))


if __name__ == "__main__":
    unittest.main()
