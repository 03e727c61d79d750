"""Promise 13 (with 1 to 3 and 6): sums of figures with weights by places."""

import unittest

from figuresums.errors import NoAsk, NoNumber, NoStretch
from figuresums.others.weights import weighed, weighed_rests, weighed_total
from figuresums.stretches.rests import counts_by_rest
from figuresums.stretches.totals import total_of
from tests.oracle import BASES, GREATEST, edges_of, figures, plain_sum, refused_stretches
from tests.oracle import small_stretches, states_in, weighed_sum

WEIGHTS = (
    (1,), (0,), (-1,), (20,), (-20,), (7,),
    (1, -1), (-1, 1), (0, 1), (1, 0), (1, 1), (0, 0),
    (1, -1, 1), (3, 0, -5), (2, 3, 5, 7), (-20, -20, -20, -20), (20, -20, 20, -20, 20),
    (1, 3, 2, 6, 4, 5), (0, 0, 0, 0, 0, 0, 1), (-1, -2, -3, -4, -5, -6, -7, -8),
    (0, 0, 0, 0, 0, 0, 0, 0), (1, 1, 1, 1, 1, 1, 1, 1), (1, -1, 1, -1, 1, -1, 1, -1),
    (20, 19, -18, 17, 0, -15, 14, -20),
)


def rests_by_going_through(first, last, weights, divisor, base):
    counts = [0] * divisor
    for number in range(first, last + 1):
        counts[weighed_sum(number, weights, base) % divisor] += 1
    return tuple(counts)


def great_states(first, last, weights, base):
    """How many numbers have each weighed sum, by counting figure by figure."""
    def grow(state, figure, place):
        return state + figure * weights[place % len(weights)]

    return states_in(first, last, base, 0, grow)


class WeighedTest(unittest.TestCase):
    def test_last_figure_by_the_first_weight(self):
        self.assertEqual(weighed(123, (1, 10, 100), 10), 3 + 20 + 100)
        self.assertEqual(weighed(5, (2, 7), 10), 10)
        self.assertEqual(weighed(50, (2, 7), 10), 35)
        self.assertEqual(weighed(0xFA, (1, -1), 16), 10 - 15)

    def test_weights_again_and_again(self):
        self.assertEqual(weighed(54321, (1, -1), 10), 1 - 2 + 3 - 4 + 5)
        self.assertEqual(weighed(11111, (1, 2), 10), 1 + 2 + 1 + 2 + 1)
        self.assertEqual(weighed(10 ** 8, (5, 0, 0, 0, 0, 0, 0, 0), 10), 5)
        self.assertEqual(weighed(10 ** 7, (0, 0, 0, 0, 0, 0, 0, -20), 10), -20)
        self.assertEqual(weighed(GREATEST, (1, 2, 3, 4, 5, 6, 7, 8), 10), 7)

    def test_figures_more_and_fewer_than_weights(self):
        for base in BASES:
            for weights in WEIGHTS:
                for number in list(range(50)) + edges_of(base):
                    with self.subTest(number=number, weights=weights, base=base):
                        expected = weighed_sum(number, weights, base)
                        self.assertEqual(weighed(number, weights, base), expected)

    def test_each_place_by_its_weight(self):
        for base in BASES:
            for weights in WEIGHTS:
                for place in range(24):
                    number = (base - 1) * base ** place
                    expected = (base - 1) * weights[place % len(weights)]
                    self.assertEqual(weighed(number, weights, base), expected)

    def test_all_ones_and_all_noughts(self):
        for base in BASES:
            for number in edges_of(base):
                for many in range(1, 9):
                    told = plain_sum(number, base)
                    self.assertEqual(weighed(number, (1,) * many, base), told)
                    self.assertEqual(weighed(number, (0,) * many, base), 0)

    def test_of_nought(self):
        for base in BASES:
            for weights in WEIGHTS:
                self.assertEqual(weighed(0, weights, base), 0)


class WeighedTotalTest(unittest.TestCase):
    def test_told_examples(self):
        self.assertEqual(weighed_total(0, 99, (1, -1), 10), 0)
        self.assertEqual(weighed_total(0, 99, (2, 3), 10), 450 * 2 + 450 * 3)
        self.assertEqual(weighed_total(10, 12, (5, -1), 10), -1 + 4 + 9)

    def test_few_numbers_by_going_through(self):
        for base in BASES:
            for place, (first, last) in enumerate(small_stretches(base)):
                weights = WEIGHTS[place % len(WEIGHTS)]
                with self.subTest(first=first, last=last, weights=weights, base=base):
                    numbers = range(first, last + 1)
                    expected = sum(weighed_sum(number, weights, base) for number in numbers)
                    self.assertEqual(weighed_total(first, last, weights, base), expected)

    def test_one_number_alone(self):
        for base in BASES:
            for weights in WEIGHTS:
                for number in edges_of(base):
                    expected = weighed_sum(number, weights, base)
                    self.assertEqual(weighed_total(number, number, weights, base), expected)

    def test_great_stretches_by_counting_figure_by_figure(self):
        for base in (2, 3, 5, 10, 16):
            for weights in ((1, -1), (2, 3, 5), (1, 0, 0, -1), (1, 3, 2, 6, 4, 5)):
                with self.subTest(weights=weights, base=base):
                    states = great_states(54321, 10 ** 29 + 7, weights, base)
                    expected = sum(state * count for state, count in states.items())
                    self.assertEqual(weighed_total(54321, 10 ** 29 + 7, weights, base), expected)

    def test_all_ones_are_plain_sums(self):
        for base in BASES:
            for many in range(1, 9):
                told = weighed_total(123, GREATEST, (1,) * many, base)
                self.assertEqual(told, total_of(123, GREATEST, base))
                self.assertEqual(weighed_total(123, GREATEST, (0,) * many, base), 0)

    def test_each_weight_alone_comes_to_all_of_them(self):
        for base in (2, 5, 10, 16):
            for weights in WEIGHTS:
                whole = 0
                for place, weight in enumerate(weights):
                    alone = [0] * len(weights)
                    alone[place] = 1
                    whole += weight * weighed_total(77, GREATEST, tuple(alone), base)
                self.assertEqual(weighed_total(77, GREATEST, weights, base), whole)

    def test_parts_come_to_the_whole(self):
        for base in BASES:
            for weights in WEIGHTS[::8]:
                whole = weighed_total(0, GREATEST, weights, base)
                for cut in edges_of(base)[:-1:2]:
                    with self.subTest(weights=weights, cut=cut, base=base):
                        one = weighed_total(0, cut, weights, base)
                        other = weighed_total(cut + 1, GREATEST, weights, base)
                        self.assertEqual(one + other, whole)

    def test_refused(self):
        for base in BASES:
            for first, last in refused_stretches():
                for weights in ((1,), (0, 0), (20, -20, 3)):
                    with self.subTest(first=first, last=last, weights=weights, base=base):
                        with self.assertRaises(NoStretch) as caught:
                            weighed_total(first, last, weights, base)
                        self.assertNotIsInstance(caught.exception, (NoAsk, NoNumber))


class WeighedRestsTest(unittest.TestCase):
    def test_told_examples(self):
        self.assertEqual(weighed_rests(1, 1, (-1,), 5, 10), (0, 0, 0, 0, 1))
        self.assertEqual(weighed_rests(10, 12, (1, -1), 3, 10), (1, 1, 1))
        self.assertEqual(weighed_rests(0, 9, (2,), 4, 10), (5, 0, 5, 0))

    def test_rests_of_sums_below_nought(self):
        for divisor in range(1, 61):
            for figure in range(1, 16):
                expected = [0] * divisor
                expected[-figure % divisor] = 1
                self.assertEqual(weighed_rests(figure, figure, (-1,), divisor, 16), tuple(expected))
                expected = [0] * divisor
                expected[-20 * figure % divisor] = 1
                told = weighed_rests(16 * figure, 16 * figure, (1, -20), divisor, 16)
                self.assertEqual(told, tuple(expected))

    def test_few_numbers_by_going_through(self):
        for base in BASES:
            for place, (first, last) in enumerate(small_stretches(base)):
                weights = WEIGHTS[place % len(WEIGHTS)]
                divisor = 1 + place * 7 % 60
                with self.subTest(first=first, last=last, weights=weights, divisor=divisor, base=base):
                    expected = rests_by_going_through(first, last, weights, divisor, base)
                    told = weighed_rests(first, last, weights, divisor, base)
                    self.assertEqual(told, expected)

    def test_one_number_alone(self):
        for base in BASES:
            for weights in WEIGHTS:
                for number in edges_of(base)[::2]:
                    expected = [0] * 11
                    expected[weighed_sum(number, weights, base) % 11] = 1
                    told = weighed_rests(number, number, weights, 11, base)
                    self.assertEqual(told, tuple(expected))

    def test_great_stretches_by_counting_figure_by_figure(self):
        for base in (2, 3, 5, 10, 16):
            for weights in ((1, -1), (-2, 3, -5), (1, 0, 0, -1), (20, -19)):
                states = great_states(54321, GREATEST, weights, base)
                for divisor in (1, 2, 9, 11, 60):
                    with self.subTest(weights=weights, divisor=divisor, base=base):
                        expected = [0] * divisor
                        for state, count in states.items():
                            expected[state % divisor] += count
                        told = weighed_rests(54321, GREATEST, weights, divisor, base)
                        self.assertEqual(told, tuple(expected))

    def test_all_ones_and_all_noughts(self):
        for base in BASES:
            for many in range(1, 9):
                told = weighed_rests(5, GREATEST, (1,) * many, 13, base)
                self.assertEqual(told, counts_by_rest(5, GREATEST, 13, base))
                told = weighed_rests(5, GREATEST, (0,) * many, 13, base)
                self.assertEqual(told, (GREATEST - 4,) + (0,) * 12)

    def test_in_turn_by_the_base_and_one_rests_are_those_of_the_numbers(self):
        for base in BASES:
            divisor = base + 1
            told = weighed_rests(0, GREATEST, (1, -1), divisor, base)
            rounds, rest = divmod(GREATEST + 1, divisor)
            self.assertEqual(told, (rounds + 1,) * rest + (rounds,) * (divisor - rest))

    def test_parts_come_to_the_whole(self):
        for base in BASES:
            for weights in WEIGHTS[3::9]:
                whole = weighed_rests(0, GREATEST, weights, 23, base)
                for cut in edges_of(base)[:-1:3]:
                    with self.subTest(weights=weights, cut=cut, base=base):
                        one = weighed_rests(0, cut, weights, 23, base)
                        other = weighed_rests(cut + 1, GREATEST, weights, 23, base)
                        self.assertEqual(tuple(map(sum, zip(one, other))), whole)

    def test_a_tuple_with_a_count_for_each_rest(self):
        for weights in WEIGHTS:
            for divisor in (1, 2, 59, 60):
                told = weighed_rests(0, GREATEST, weights, divisor, 10)
                self.assertIs(type(told), tuple)
                self.assertEqual(len(told), divisor)
                self.assertEqual({type(count) for count in told}, {int})
                self.assertEqual(sum(told), GREATEST + 1)

    def test_refused(self):
        for base in BASES:
            for first, last in refused_stretches():
                for weights, divisor in (((1,), 1), ((0, 0), 60), ((20, -20, 3), 7)):
                    with self.subTest(first=first, last=last, weights=weights, base=base):
                        with self.assertRaises(NoStretch) as caught:
                            weighed_rests(first, last, weights, divisor, base)
                        self.assertNotIsInstance(caught.exception, (NoAsk, NoNumber))


class OracleTest(unittest.TestCase):
    def test_figures_as_the_tests_take_them(self):
        self.assertEqual(figures(1230, 10), [0, 3, 2, 1])
        self.assertEqual(weighed_sum(1230, (1, -1), 10), 0 - 3 + 2 - 1)


if __name__ == "__main__":
    unittest.main()
