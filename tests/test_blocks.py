"""The parts that the functions share."""

import unittest

from figuresums.errors import NoStretch
from figuresums.stretches.blocks import Line, Wheel, blocks_of, check_stretch
from tests.oracle import BASES, FAIR, GREATEST, edges_of, plain_sum


class BlocksTest(unittest.TestCase):
    def test_told_examples(self):
        self.assertEqual(blocks_of(98, 112, 10), [(98, 17, 0, 1), (99, 18, 0, 1), (100, 1, 1, 10),
                                                  (110, 2, 0, 1), (111, 3, 0, 1), (112, 4, 0, 1)])
        self.assertEqual(blocks_of(0, 99, 10), [(0, 0, 2, 100)])
        self.assertEqual(blocks_of(0, 0, 2), [(0, 0, 0, 1)])

    def lead_from_first_to_last(self, first, last, base):
        at = first
        for start, start_sum, places, worth in blocks_of(first, last, base):
            self.assertEqual(start, at)
            self.assertEqual(start_sum, plain_sum(start, base))
            self.assertEqual(worth, base ** places)
            self.assertEqual(start % worth, 0)
            at += worth
        self.assertEqual(at, last + 1)

    def test_blocks_lead_from_first_to_last(self):
        for base in BASES:
            edges = edges_of(base)
            for first in list(range(20)) + edges:
                for last in list(range(40)) + edges:
                    if first <= last:
                        with self.subTest(first=first, last=last, base=base):
                            self.lead_from_first_to_last(first, last, base)

    def test_few_blocks(self):
        for base in BASES:
            self.assertLess(len(blocks_of(1, GREATEST - 1, base)), 1000)

    def test_no_block_where_there_is_no_number(self):
        self.assertEqual(blocks_of(0, -1, 10), [])
        self.assertEqual(blocks_of(FAIR, FAIR - 1, 10), [])


class CheckTest(unittest.TestCase):
    def test_stretch_is_checked(self):
        check_stretch(0, 0)
        check_stretch(7, GREATEST)
        for first, last in ((1, 0), (GREATEST, 7), (10 ** 5000, 0)):
            with self.assertRaises(NoStretch):
                check_stretch(first, last)


def packed(counts, width):
    """A row of counts as one number, the first one in the last slot."""
    return sum(count << place * width for place, count in enumerate(counts))


class LineTest(unittest.TestCase):
    def test_moved(self):
        line = Line(8)
        self.assertEqual(line.moved(packed([5, 6, 255], 8), 0), packed([5, 6, 255], 8))
        self.assertEqual(line.moved(packed([5, 6, 255], 8), 2), packed([0, 0, 5, 6, 255], 8))
        self.assertEqual(line.moved(packed([0, 5, 6, 255], 8), -1), packed([5, 6, 255], 8))

    def test_spread(self):
        line = Line(16)
        for times in range(17):
            for by in (-3, -1, 0, 1, 2, 20):
                with self.subTest(times=times, by=by):
                    counts = [0] * 400
                    for time in range(times):
                        counts[60 + time * by] += 7
                        counts[61 + time * by] += 100
                    row = packed([0] * 60 + [7, 100], 16)
                    self.assertEqual(line.spread(row, times, by), packed(counts, 16))

    def test_slot_at(self):
        line = Line(3)
        row = packed([7, 0, 1, 7], 3)
        self.assertEqual([line.slot_at(row, place) for place in range(6)], [7, 0, 1, 7, 0, 0])


class WheelTest(unittest.TestCase):
    def test_moved_around(self):
        for divisor in (1, 2, 3, 7, 60):
            wheel = Wheel(10, divisor)
            counts = list(range(3, 3 + divisor))
            for by in (0, 1, -1, 5, -5, 20 * 15, -20 * 15, divisor, 1 - divisor):
                with self.subTest(divisor=divisor, by=by):
                    shift = by % divisor
                    expected = counts[divisor - shift:] + counts[:divisor - shift]
                    told = wheel.moved(packed(counts, 10), by)
                    self.assertEqual(told, packed(expected, 10))

    def test_spread_around(self):
        for divisor in (1, 2, 5, 12, 60):
            wheel = Wheel(12, divisor)
            for times in range(17):
                for by in (-20, -1, 0, 1, 7):
                    with self.subTest(divisor=divisor, times=times, by=by):
                        counts = [0] * divisor
                        for time in range(times):
                            counts[time * by % divisor] += 9
                            counts[(time * by - 1) % divisor] += 200
                        row = packed([9], 12) + packed([0] * (divisor - 1) + [200], 12)
                        self.assertEqual(wheel.spread(row, times, by), packed(counts, 12))


if __name__ == "__main__":
    unittest.main()
