"""Promise 17 (with 1 to 3): kept numbers."""

import unittest

from figuresums.errors import NoAsk, NoNumber, NoStretch, SumError
from figuresums.kept import KeptNumber
from tests.oracle import BASES, GREATEST, carries_by_adding, drawn_numbers, edges_of, plain_sum


def told_of(kept):
    return kept.number_now(), kept.sum_now(), kept.carries_now()


class ByAddingPlaceByPlace:
    """What a kept number tells, worked out place by place."""

    def __init__(self, base):
        self.base = base
        self.number = 0
        self.carries = 0

    def deed(self, word, number):
        """Whether the deed is done."""
        after = self.number + number if word == "add" else self.number - number
        if not 0 <= after <= GREATEST:
            return False
        if word == "add":
            self.carries += carries_by_adding(self.number, number, self.base)
        self.number = after
        return True

    def told(self):
        return self.number, plain_sum(self.number, self.base), self.carries


def drawn_deeds(many, base, seed):
    """Deeds with small and great numbers, many of them such as are refused."""
    numbers = drawn_numbers(many, GREATEST, seed)
    turns = drawn_numbers(many, 2 ** 40, seed + 1)
    deeds = []
    for turn, number in zip(turns, numbers):
        word = "less" if turn % 2 else "add"
        deeds.append((word, GREATEST - number if turn % 3 == 0 else number))
    return deeds


class KeptNumberTest(unittest.TestCase):
    def done(self, kept, word, number):
        """Does a deed, which tells nothing."""
        self.assertIsNone(kept.add(number) if word == "add" else kept.less(number))

    def refused(self, kept, word, number):
        """A deed that is refused and changes nothing."""
        before = told_of(kept)
        with self.assertRaises(NoStretch) as caught:
            self.done(kept, word, number)
        self.assertIsInstance(caught.exception, SumError)
        self.assertIsInstance(caught.exception, ValueError)
        self.assertNotIsInstance(caught.exception, (NoAsk, NoNumber))
        self.assertEqual(told_of(kept), before)

    def test_at_first(self):
        for base in BASES:
            self.assertEqual(told_of(KeptNumber(base)), (0, 0, 0))

    def test_told_example(self):
        kept = KeptNumber(10)
        self.done(kept, "add", 999)
        self.assertEqual(told_of(kept), (999, 27, 0))
        self.done(kept, "add", 1)
        self.assertEqual(told_of(kept), (1000, 1, 3))
        self.done(kept, "less", 1)
        self.assertEqual(told_of(kept), (999, 27, 3))
        self.done(kept, "add", 111)
        self.assertEqual(told_of(kept), (1110, 3, 6))

    def test_to_the_greatest_and_just_above(self):
        for base in BASES:
            kept = KeptNumber(base)
            self.refused(kept, "add", GREATEST + 1)
            self.done(kept, "add", GREATEST)
            self.assertEqual(told_of(kept), (GREATEST, plain_sum(GREATEST, base), 0))
            self.refused(kept, "add", 1)
            self.refused(kept, "add", GREATEST)
            self.done(kept, "add", 0)
            self.done(kept, "less", 5)
            self.refused(kept, "add", 6)
            self.done(kept, "add", 5)
            self.assertEqual(kept.number_now(), GREATEST)

    def test_to_nought_and_just_below(self):
        for base in BASES:
            kept = KeptNumber(base)
            self.refused(kept, "less", 1)
            self.refused(kept, "less", GREATEST)
            self.done(kept, "less", 0)
            self.done(kept, "add", 7)
            self.refused(kept, "less", 8)
            self.done(kept, "less", 7)
            self.assertEqual(told_of(kept)[:2], (0, 0))
            self.done(kept, "add", GREATEST)
            self.refused(kept, "less", GREATEST + 1)
            self.done(kept, "less", GREATEST)
            self.assertEqual(told_of(kept), (0, 0, 0))

    def test_taking_away_makes_no_carries(self):
        for base in BASES:
            kept = KeptNumber(base)
            self.done(kept, "add", base ** 3)
            self.done(kept, "less", 1)
            self.done(kept, "less", base)
            self.assertEqual(kept.carries_now(), 0)
            self.done(kept, "add", base + 1)
            self.assertEqual(told_of(kept), (base ** 3, 1, 3))
            self.done(kept, "less", base ** 3)
            self.assertEqual(told_of(kept), (0, 0, 3))

    def test_two_hundred_deeds_by_adding_place_by_place(self):
        for base in BASES:
            for seed in (base, 1000 + base):
                kept, model = KeptNumber(base), ByAddingPlaceByPlace(base)
                refused = 0
                for word, number in drawn_deeds(200, base, seed):
                    with self.subTest(word=word, number=number, base=base):
                        if model.deed(word, number):
                            self.done(kept, word, number)
                        else:
                            refused += 1
                            self.refused(kept, word, number)
                        self.assertEqual(told_of(kept), model.told())
                self.assertGreater(refused, 20)
                self.assertLess(refused, 180)

    def test_edges_added_in_turn(self):
        for base in BASES:
            kept, model = KeptNumber(base), ByAddingPlaceByPlace(base)
            for number in edges_of(base):
                for word in ("add", "add", "less"):
                    if model.deed(word, number):
                        self.done(kept, word, number)
                    else:
                        self.refused(kept, word, number)
                    self.assertEqual(told_of(kept), model.told())

    def test_one_made_afresh_tells_the_same(self):
        for base in BASES:
            kept, model = KeptNumber(base), ByAddingPlaceByPlace(base)
            kept_deeds = []
            for word, number in drawn_deeds(120, base, 77 + base):
                if model.deed(word, number):
                    kept_deeds.append((word, number))
                    self.done(kept, word, number)
                else:
                    self.refused(kept, word, number)
            afresh = KeptNumber(base)
            for word, number in kept_deeds:
                self.done(afresh, word, number)
            self.assertEqual(told_of(afresh), told_of(kept))

    def test_asked_as_often_as_one_likes(self):
        kept = KeptNumber(7)
        self.done(kept, "add", 6)
        self.done(kept, "add", 5)
        for _ in range(1000):
            self.assertEqual(told_of(kept), (11, 5, 1))

    def test_two_beside_one_another(self):
        for base in BASES:
            one, other = KeptNumber(base), KeptNumber(base)
            self.done(one, "add", base - 1)
            self.assertEqual(told_of(other), (0, 0, 0))
            self.done(other, "add", GREATEST)
            self.done(one, "add", 1)
            self.refused(other, "add", 1)
            self.assertEqual(told_of(one), (base, 1, 1))
            self.assertEqual(told_of(other), (GREATEST, plain_sum(GREATEST, base), 0))

    def test_two_of_two_bases(self):
        one, other = KeptNumber(2), KeptNumber(16)
        for kept in (one, other):
            self.done(kept, "add", 15)
            self.done(kept, "add", 1)
        self.assertEqual(told_of(one), (16, 1, 4))
        self.assertEqual(told_of(other), (16, 1, 1))


if __name__ == "__main__":
    unittest.main()
