"""Promises 2 and 3 over the whole: what the functions tell of one stretch fits together."""

import unittest

from figuresums.errors import NoStretch
from figuresums.figures.carries import count_turned, turned_sum
from figuresums.figures.written import figures_of, number_shown, read_number, root_of, sum_of
from figuresums.others.multiples import least_multiple, least_sum
from figuresums.others.weights import weighed, weighed_rests, weighed_total
from figuresums.stretches.ends import ends_of, records_in
from figuresums.stretches.rests import count_both, count_divided, counts_by_rest
from figuresums.stretches.told import beside, count_with, nth_with, place_of
from figuresums.stretches.totals import figures_in, total_of
from figuresums.whole import Desk
from tests.oracle import BASES, FAIR, GREATEST, drawn_numbers, edges_of, plain_sum, refused_stretches

IN_TURN = (1, -1)


def stretches_of(base, most):
    """Stretches that begin and end anywhere, to the most."""
    numbers = sorted(drawn_numbers(12, most, 7 * base)) + [most - 3, most]
    pairs = list(zip(numbers, numbers[1:])) + list(zip(numbers, numbers[5:]))
    return pairs + [(0, number) for number in numbers[::4]] + [(number, number) for number in numbers[::5]]


def greatest_sum(last, base):
    return (base - 1) * len(figures_of(last, base))


class FitsTogetherTest(unittest.TestCase):
    def test_counts_by_sums_come_to_the_stretch(self):
        for base in BASES:
            for first, last in stretches_of(base, GREATEST)[::4]:
                with self.subTest(first=first, last=last, base=base):
                    sums = range(greatest_sum(last, base) + 1)
                    pairs = [count_with(first, last, told, base) for told in sums]
                    self.assertEqual(sum(many for many, _ in pairs), last - first + 1)
                    together = (first + last) * (last - first + 1) // 2
                    self.assertEqual(sum(numbers for _, numbers in pairs), together)
                    total = sum(told * many for told, (many, _) in enumerate(pairs))
                    self.assertEqual(total_of(first, last, base), total)
                    (greatest, first_greatest), (least, first_least) = ends_of(first, last, base)
                    had = [told for told in sums if pairs[told][0] > 0]
                    self.assertEqual((had[-1], had[0]), (greatest, least))
                    for told, number in ((greatest, first_greatest), (least, first_least)):
                        self.assertEqual(count_with(first, number, told, base), (1, number))
                    for divisor in (1, 2, 7, base, 60):
                        rests = [0] * divisor
                        for told, (many, _) in enumerate(pairs):
                            rests[told % divisor] += many
                        self.assertEqual(counts_by_rest(first, last, divisor, base), tuple(rests))

    def test_totals_and_figures(self):
        for base in BASES:
            for first, last in stretches_of(base, GREATEST):
                with self.subTest(first=first, last=last, base=base):
                    total = total_of(first, last, base)
                    counts = figures_in(first, last, base)
                    self.assertEqual(sum(figure * count for figure, count in enumerate(counts)), total)
                    self.assertEqual(weighed_total(first, last, (1,), base), total)
                    self.assertEqual(weighed_total(first, last, (3, 3, 3), base), 3 * total)

    def test_rests_come_to_the_stretch(self):
        for base in BASES:
            for first, last in stretches_of(base, GREATEST):
                for divisor in (1, 3, 11, 60):
                    with self.subTest(first=first, last=last, divisor=divisor, base=base):
                        plain = counts_by_rest(first, last, divisor, base)
                        self.assertEqual(sum(plain), last - first + 1)
                        self.assertEqual(weighed_rests(first, last, (1, 1), divisor, base), plain)
                        turned = weighed_rests(first, last, IN_TURN, divisor, base)
                        self.assertEqual(sum(turned), last - first + 1)

    def test_sums_in_turn_come_to_the_stretch(self):
        for base in (2, 3, 10, 13, 16):
            for first, last in stretches_of(base, GREATEST)[::6]:
                with self.subTest(first=first, last=last, base=base):
                    reach = greatest_sum(last, base)
                    counts = {told: count_turned(first, last, told, base) for told in range(-reach, reach + 1)}
                    self.assertEqual(sum(counts.values()), last - first + 1)
                    together = sum(told * count for told, count in counts.items())
                    self.assertEqual(together, weighed_total(first, last, IN_TURN, base))

    def test_both_come_to_those_with_the_sum(self):
        for base in (2, 3, 7, 10, 16):
            for first, last in stretches_of(base, FAIR)[::5]:
                for told in (1, 8, 17):
                    for divisor in (1, 6, 11):
                        with self.subTest(first=first, last=last, told=told, divisor=divisor, base=base):
                            rests = [count_both(first, last, told, divisor, rest, base) for rest in range(divisor)]
                            self.assertEqual(sum(rests), count_with(first, last, told, base)[0])

    def test_those_divided_by_their_sum(self):
        for base in (2, 10, 16):
            for first, last in ((1, 4000), (999, 1234567), (10 ** 7, 10 ** 7 + 5 * 10 ** 5)):
                sums = range(1, greatest_sum(last, base) + 1)
                many = sum(count_both(first, last, told, told, 0, base) for told in sums)
                self.assertEqual(count_divided(first, last, base), many)

    def test_numbers_with_the_same_sum_in_their_order(self):
        for base in BASES:
            for number in edges_of(base) + drawn_numbers(10, GREATEST, base):
                with self.subTest(number=number, base=base):
                    told, place = sum_of(number, base), place_of(number, base)
                    self.assertEqual(count_with(0, number, told, base)[0], place + 1)
                    lesser, greater = beside(number, base)
                    if told > 0:
                        self.assertEqual(count_with(number, greater, told, base), (2, number + greater))
                    if lesser is not None:
                        self.assertEqual(count_with(lesser, number, told, base), (2, lesser + number))
                        self.assertEqual(place_of(lesser, base), place - 1)
                    if told <= 300 and place <= GREATEST:
                        self.assertEqual(nth_with(place, told, base), number)

    def test_records(self):
        for base in BASES:
            records = records_in(0, GREATEST, base)
            for record, following in zip(records, records[1:]):
                greatest = sum_of(record, base)
                self.assertEqual(ends_of(0, following - 1, base)[0], (greatest, record))
                self.assertEqual(ends_of(0, following, base)[0], (sum_of(following, base), following))

    def test_one_number_alone(self):
        for base in BASES:
            for number in edges_of(base) + drawn_numbers(20, GREATEST, 5 + base):
                with self.subTest(number=number, base=base):
                    told = sum_of(number, base)
                    self.assertEqual(total_of(number, number, base), told)
                    self.assertEqual(count_with(number, number, told, base), (1, number))
                    self.assertEqual(ends_of(number, number, base), ((told, number), (told, number)))
                    self.assertEqual(counts_by_rest(number, number, 60, base)[told % 60], 1)
                    self.assertEqual(weighed(number, (1,), base), told)
                    self.assertEqual(weighed(number, IN_TURN, base), turned_sum(number, base))
                    self.assertEqual(count_turned(number, number, turned_sum(number, base), base), 1)
                    self.assertEqual(read_number(number_shown(number, base), base), number)
                    root = root_of(number, base)
                    self.assertEqual(root, (number - 1) % (base - 1) + 1 if number > 0 else 0)

    def test_multiples(self):
        for base in (2, 5, 10, 16):
            for divisor in (1, 7, 13, 36, 60):
                told = least_sum(divisor, base)
                number = least_multiple(divisor, told, base)
                if number <= FAIR:
                    self.assertEqual(count_both(1, number, told, divisor, 0, base), 1)
                    for lesser in range(1, told):
                        self.assertEqual(count_both(1, FAIR, lesser, divisor, 0, base), 0)


class PartedAnywhereTest(unittest.TestCase):
    def come_to(self, asked, first, cut, last):
        """The parts together tell what the whole tells: asked tells a row of numbers."""
        parts = zip(asked(first, cut), asked(cut + 1, last))
        self.assertEqual([one + other for one, other in parts], list(asked(first, last)))

    def test_counts_and_totals(self):
        for base in BASES:
            told = 10 + base * 3
            asks = (
                lambda first, last: [total_of(first, last, base)],
                lambda first, last: figures_in(first, last, base),
                lambda first, last: count_with(first, last, told, base),
                lambda first, last: counts_by_rest(first, last, 60 - base, base),
                lambda first, last: [weighed_total(first, last, (3, -20, 7), base)],
                lambda first, last: weighed_rests(first, last, (3, -20, 7), 44 + base, base),
                lambda first, last: [count_turned(first, last, base - 5, base)],
            )
            numbers = sorted(set(drawn_numbers(16, GREATEST, 11 * base) + [0, base, base ** 9 - 1, GREATEST]))
            for first, cut, last in zip(numbers, numbers[2:], numbers[5:]):
                for ask in asks:
                    with self.subTest(first=first, cut=cut, last=last, base=base):
                        self.come_to(ask, first, cut, last)

    def test_counts_of_fair_numbers(self):
        for base in (2, 6, 10, 16):
            numbers = sorted(set(drawn_numbers(12, FAIR, 11 * base) + [0, base ** 4 - 1, FAIR]))
            for first, cut, last in zip(numbers, numbers[2:], numbers[5:]):
                self.come_to(lambda first, last: [count_both(first, last, 14, 23, 5, base)], first, cut, last)
        for base in (2, 6, 10, 16):
            self.come_to(lambda first, last: [count_divided(first, last, base)], 5, 54321, 999999)

    def test_ends(self):
        for base in BASES:
            numbers = sorted(set(drawn_numbers(16, GREATEST, 11 * base) + [0, base, base ** 9 - 1, GREATEST]))
            for first, cut, last in zip(numbers, numbers[2:], numbers[5:]):
                with self.subTest(first=first, cut=cut, last=last, base=base):
                    one, other = ends_of(first, cut, base), ends_of(cut + 1, last, base)
                    # Of two with the same sum the first number is told.
                    greatest = other[0] if other[0][0] > one[0][0] else one[0]
                    least = other[1] if other[1][0] < one[1][0] else one[1]
                    self.assertEqual(ends_of(first, last, base), (greatest, least))
                    records = records_in(first, cut, base) + records_in(cut + 1, last, base)
                    self.assertEqual(records_in(first, last, base), records[:60])


class RefusedStretchesTest(unittest.TestCase):
    def test_whatever_else_is_asked(self):
        for base in BASES:
            for first, last in refused_stretches():
                asks = [
                    (total_of, base), (figures_in, base), (ends_of, base), (records_in, base),
                    (count_divided, base), (counts_by_rest, 1, base), (counts_by_rest, 60, base),
                    (weighed_total, (0,), base), (weighed_rests, (-20,), 60, base), (weighed_rests, (1,), 1, base),
                ]
                asks += [(count_with, told, base) for told in (0, 1, 400, 10 ** 6)]
                asks += [(count_turned, told, base) for told in (0, -1, 400, -400, 10 ** 6, -10 ** 6)]
                asks += [(count_both, told, divisor, rest, base) for told in (0, 5, 10 ** 6)
                         for divisor, rest in ((1, 0), (1, 1), (60, 59), (60, 60), (7, 10 ** 6))]
                for function, *others in asks:
                    with self.subTest(function=function.__name__, first=first, last=last, others=others):
                        with self.assertRaises(NoStretch) as caught:
                            function(first, last, *others)
                        self.assertIs(type(caught.exception), NoStretch)


class OwnTest(unittest.TestCase):
    def test_what_is_handed_in_is_not_changed(self):
        weights = (3, -1, 4)
        for base in BASES:
            weighed(GREATEST, weights, base)
            weighed_total(5, GREATEST, weights, base)
            weighed_rests(5, GREATEST, weights, 60, base)
            self.assertEqual(weights, (3, -1, 4))

    def test_rows_are_tuples_of_whole_numbers(self):
        for base in BASES:
            rows = [figures_of(GREATEST, base), figures_in(0, GREATEST, base), count_with(0, 99, 5, base),
                    counts_by_rest(0, 99, 7, base), records_in(0, GREATEST, base), beside(base ** 3 + 1, base),
                    weighed_rests(0, 99, (1, -1), 7, base), *ends_of(0, 99, base)]
            for row in rows:
                self.assertIs(type(row), tuple)
                self.assertEqual({type(number) for number in row}, {int})
            self.assertIs(type(ends_of(0, 99, base)), tuple)
            numbers = [sum_of(99, base), root_of(99, base), total_of(0, 99, base), place_of(99, base),
                       nth_with(3, 4, base), count_both(0, 99, 4, 3, 1, base), count_divided(1, 99, base),
                       weighed(99, (1, -1), base), weighed_total(0, 99, (1, -1), base), least_sum(7, base),
                       turned_sum(99, base), count_turned(0, 99, 1, base), plain_sum(99, base)]
            self.assertEqual({type(number) for number in numbers}, {int})

    def test_desks_and_functions_beside_one_another(self):
        desk = Desk()
        desk.ask("base 16")
        before = desk.ask("rests 0 fff 7"), counts_by_rest(0, 4095, 7, 16)
        for base in BASES:
            Desk().ask(f"base {base}")
            counts_by_rest(3, GREATEST, 7, base)
        self.assertEqual((desk.ask("rests 0 fff 7"), counts_by_rest(0, 4095, 7, 16)), before)


if __name__ == "__main__":
    unittest.main()
