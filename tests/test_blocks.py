"""The parts that the functions over stretches share."""

import unittest

from figuresums.errors import NoStretch
from figuresums.stretches.blocks import blocks_of, check_stretch, rotated
from tests.oracle import BASES, FAIR, GREATEST, edges_of


class BlocksTest(unittest.TestCase):
    def test_told_examples(self):
        self.assertEqual(blocks_of(98, 112, 10), [(98, 0, 1), (99, 0, 1), (100, 1, 10),
                                                  (110, 0, 1), (111, 0, 1), (112, 0, 1)])
        self.assertEqual(blocks_of(0, 99, 10), [(0, 2, 100)])
        self.assertEqual(blocks_of(0, 0, 2), [(0, 0, 1)])

    def lead_from_first_to_last(self, first, last, base):
        at = first
        for start, places, worth in blocks_of(first, last, base):
            self.assertEqual(start, at)
            self.assertEqual(worth, base ** places)
            self.assertEqual(start % worth, 0)
            at += worth
        self.assertEqual(at, last + 1)

    def test_blocks_lead_from_first_to_last(self):
        for base in BASES:
            edges = edges_of(base)
            for first in list(range(20)) + edges:
                for last in list(range(40)) + edges:
                    if first <= last:
                        with self.subTest(first=first, last=last, base=base):
                            self.lead_from_first_to_last(first, last, base)

    def test_few_blocks(self):
        for base in BASES:
            self.assertLess(len(blocks_of(1, GREATEST - 1, base)), 1000)

    def test_no_block_where_there_is_no_number(self):
        self.assertEqual(blocks_of(0, -1, 10), [])
        self.assertEqual(blocks_of(FAIR, FAIR - 1, 10), [])


class SharedTest(unittest.TestCase):
    def test_stretch_is_checked(self):
        check_stretch(0, 0)
        check_stretch(7, GREATEST)
        for first, last in ((1, 0), (GREATEST, 7), (10 ** 5000, 0)):
            with self.assertRaises(NoStretch):
                check_stretch(first, last)

    def test_rotated(self):
        row = [5, 6, 7]
        self.assertEqual(rotated(row, 0), [5, 6, 7])
        self.assertEqual(rotated(row, 1), [7, 5, 6])
        self.assertEqual(rotated(row, 5), [6, 7, 5])
        self.assertEqual(rotated(row, -1), [6, 7, 5])
        self.assertEqual(rotated([9], 4), [9])
        self.assertEqual(row, [5, 6, 7])


if __name__ == "__main__":
    unittest.main()
