"""Promises 4 and 5 (with 1 to 3): numbers written and read, figures, sums, roots."""

import unittest

from figuresums.errors import NoAsk, NoNumber, NoStretch, SumError
from figuresums.figures.written import figures_of, number_shown, read_number, root_of, sum_of

BASES = range(2, 17)
FIGURES = "0123456789abcdef"
PRINTABLE = [chr(code) for code in range(32, 127)]


def sample_numbers(base):
    """Small numbers, powers and their neighbours, and numbers far above 10 ** 30."""
    numbers = list(range(0, 3 * base * base))
    for exponent in (3, 7, 30, 99, 100, 299):
        power = base ** exponent
        numbers += [power - 1, power, power + 1]
    great = 10 ** 30
    return numbers + [great - 1, great, great + 1, great * great + 7, 7 ** 400]


class ShownTest(unittest.TestCase):
    def test_shown_is_written_plainly_and_read_back(self):
        for base in BASES:
            for number in sample_numbers(base):
                with self.subTest(base=base, number=number):
                    text = number_shown(number, base)
                    self.assertIsInstance(text, str)
                    self.assertEqual(set(text) - set(FIGURES[:base]), set())
                    self.assertTrue(text == "0" or text[0] != "0")
                    self.assertEqual(int(text, base), number)
                    self.assertEqual(read_number(text, base), number)

    def test_nought(self):
        for base in BASES:
            self.assertEqual(number_shown(0, base), "0")

    def test_each_figure(self):
        for base in BASES:
            for figure in range(base):
                self.assertEqual(number_shown(figure, base), FIGURES[figure])

    def test_powers_and_one_less(self):
        for base in BASES:
            for exponent in (1, 2, 10, 100, 300):
                with self.subTest(base=base, exponent=exponent):
                    power = base ** exponent
                    self.assertEqual(number_shown(power, base), "1" + "0" * exponent)
                    self.assertEqual(number_shown(power - 1, base), FIGURES[base - 1] * exponent)

    def test_ten_to_the_thirtieth(self):
        self.assertEqual(number_shown(10 ** 30, 10), "1" + "0" * 30)
        self.assertEqual(number_shown(10 ** 30, 16), "c9f2c9cd04674edea40000000")
        self.assertEqual(number_shown(10 ** 30, 8), "1447626234640431647336510000000000")

    def test_more_figures_than_python_itself_shows(self):
        self.assertEqual(number_shown(10 ** 5000, 10), "1" + "0" * 5000)
        self.assertEqual(number_shown(16 ** 5000 - 1, 16), "f" * 5000)

    def test_bases_above_the_limit_raise_no_error(self):
        for base in (17, 20, 36):
            for number in (0, base - 1, base, 10 ** 30):
                with self.subTest(base=base, number=number):
                    self.assertEqual(read_number(number_shown(number, base), base), number)


class ReadTest(unittest.TestCase):
    def test_nought_alone(self):
        for base in BASES:
            self.assertEqual(read_number("0", base), 0)

    def test_each_figure(self):
        for base in BASES:
            for figure in range(base):
                self.assertEqual(read_number(FIGURES[figure], base), figure)
                self.assertEqual(read_number("1" + FIGURES[figure], base), base + figure)

    def test_told_examples(self):
        self.assertEqual(read_number("101", 2), 5)
        self.assertEqual(read_number("2102", 3), 65)
        self.assertEqual(read_number("90210", 10), 90210)
        self.assertEqual(read_number("deadbeef", 16), 3735928559)
        self.assertEqual(read_number("1" + "0" * 30, 10), 10 ** 30)

    def test_longest_texts(self):
        for base in BASES:
            text = "1" + FIGURES[:base] * 150
            self.assertEqual(read_number(text[:300], base), int(text[:300], base))

    def test_same_asked_again(self):
        for _ in range(3):
            self.assertEqual(read_number("7f", 16), 127)
            with self.assertRaises(NoNumber):
                read_number("7g", 16)


class ReadRefusedTest(unittest.TestCase):
    def refused(self, text, base, place):
        with self.subTest(text=text, base=base):
            with self.assertRaises(NoNumber) as caught:
                read_number(text, base)
            self.assertEqual(caught.exception.place, place)
            self.assertIsInstance(caught.exception, SumError)
            self.assertIsInstance(caught.exception, ValueError)
            self.assertNotIsInstance(caught.exception, NoStretch)
            self.assertNotIsInstance(caught.exception, NoAsk)

    def test_text_without_signs(self):
        for base in BASES:
            self.refused("", base, 0)

    def test_nought_ahead(self):
        for base in BASES:
            for text in ("00", "01", "000", "0101", "0" + "1" * 299):
                self.refused(text, base, 0)

    def test_nought_ahead_of_what_is_no_figure(self):
        for base in BASES:
            for text in ("0z", "0 ", "0\n", "0-", "0A", "01z", "00z", "0.1", "0x1", "0b1"):
                self.refused(text, base, 0)

    def test_no_figure_at_each_place(self):
        for base in BASES:
            self.refused("z", base, 0)
            self.refused("z11", base, 0)
            self.refused("1z1", base, 1)
            self.refused("11z", base, 2)
            self.refused("1" * 150 + "z" + "1" * 149, base, 150)
            self.refused("1" * 299 + "z", base, 299)

    def test_first_of_several_is_kept(self):
        for base in BASES:
            self.refused("zz", base, 0)
            self.refused("1z z", base, 1)
            self.refused("10-z", base, 2)

    def test_figure_of_a_greater_base(self):
        for base in range(2, 16):
            for figure in FIGURES[base:]:
                self.refused(figure, base, 0)
                self.refused("1" + figure + "1", base, 1)
                self.refused("10" + figure, base, 2)
        self.refused("g", 16, 0)
        self.refused("1g1", 16, 1)

    def test_great_letters(self):
        for base in BASES:
            for letter in "ABCDEFZ":
                self.refused(letter, base, 0)
                self.refused("1" + letter + "1", base, 1)
                self.refused("11" + letter, base, 2)

    def test_plus_and_minus(self):
        for base in BASES:
            for sign in "+-":
                self.refused(sign, base, 0)
                self.refused(sign + "1", base, 0)
                self.refused("1" + sign + "1", base, 1)
                self.refused("1" + sign, base, 1)

    def test_blanks_and_line_ends(self):
        for base in BASES:
            for sign in " \n":
                self.refused(sign, base, 0)
                self.refused(sign + "1", base, 0)
                self.refused("1" + sign + "1", base, 1)
                self.refused("10" + sign, base, 2)

    def test_every_other_sign(self):
        for base in BASES:
            for sign in PRINTABLE:
                if sign not in FIGURES[:base]:
                    self.refused(sign, base, 0)
                    self.refused("1" + sign, base, 1)
                    self.refused("1" + sign + "1", base, 1)

    def test_what_python_itself_would_read(self):
        self.refused("1_0", 10, 1)
        self.refused("\u0661", 10, 0)
        self.refused("1\u00b2", 10, 1)


class FiguresTest(unittest.TestCase):
    def test_tuple_of_whole_numbers(self):
        for number in (0, 5, 10 ** 30):
            told = figures_of(number, 10)
            self.assertIs(type(told), tuple)
            for figure in told:
                self.assertIs(type(figure), int)

    def test_nought_has_one_figure(self):
        for base in BASES:
            self.assertEqual(figures_of(0, base), (0,))

    def test_greatest_place_first(self):
        self.assertEqual(figures_of(1230, 10), (1, 2, 3, 0))
        self.assertEqual(figures_of(6, 2), (1, 1, 0))
        self.assertEqual(figures_of(255 * 16, 16), (15, 15, 0))
        self.assertEqual(figures_of(10 ** 30, 10), (1,) + (0,) * 30)

    def test_as_written(self):
        for base in BASES:
            for number in sample_numbers(base):
                with self.subTest(base=base, number=number):
                    figures = figures_of(number, base)
                    shown = "".join(FIGURES[figure] for figure in figures)
                    self.assertEqual(int(shown, base), number)
                    self.assertEqual(len(figures), len(number_shown(number, base)))

    def test_same_asked_again(self):
        self.assertEqual(figures_of(907, 10), figures_of(907, 10))


class SumTest(unittest.TestCase):
    def test_nought(self):
        for base in BASES:
            self.assertEqual(sum_of(0, base), 0)

    def test_told_examples(self):
        self.assertEqual(sum_of(1234, 10), 10)
        self.assertEqual(sum_of(255, 2), 8)
        self.assertEqual(sum_of(255, 16), 30)
        self.assertEqual(sum_of(10 ** 30, 10), 1)
        self.assertEqual(sum_of(10 ** 30 - 1, 10), 270)

    def test_sum_of_what_is_shown(self):
        for base in BASES:
            for number in sample_numbers(base):
                with self.subTest(base=base, number=number):
                    expected = sum(FIGURES.index(sign) for sign in number_shown(number, base))
                    self.assertEqual(sum_of(number, base), expected)

    def test_powers_and_one_less(self):
        for base in BASES:
            for exponent in (1, 2, 30, 5000):
                power = base ** exponent
                self.assertEqual(sum_of(power, base), 1)
                self.assertEqual(sum_of(power - 1, base), exponent * (base - 1))


class RootTest(unittest.TestCase):
    def test_one_figure_is_its_own_root(self):
        for base in BASES:
            for number in range(base):
                self.assertEqual(root_of(number, base), number)

    def test_sum_of_more_figures(self):
        self.assertEqual(root_of(99999, 10), 9)
        self.assertEqual(root_of(19, 10), 1)
        self.assertEqual(root_of(199, 10), 1)
        self.assertEqual(root_of(2 * 10 ** 22 - 1, 10), 1)
        self.assertEqual(root_of(7, 2), 1)
        self.assertEqual(root_of(0xff1, 16), 1)

    def test_root_follows_the_rest_by_the_base_less_one(self):
        for base in BASES:
            for number in sample_numbers(base):
                with self.subTest(base=base, number=number):
                    expected = 0 if number == 0 else (number - 1) % (base - 1) + 1
                    self.assertEqual(root_of(number, base), expected)

    def test_great_numbers(self):
        self.assertEqual(root_of(10 ** 5000 - 1, 10), 9)
        self.assertEqual(root_of(10 ** 5000, 10), 1)


if __name__ == "__main__":
    unittest.main()
