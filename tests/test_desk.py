"""Promise 18 (with 1 to 3): the desk."""

import unittest

from figuresums.errors import NoAsk, NoNumber, NoStretch, SumError
from figuresums.figures.written import number_shown
from figuresums.others.multiples import least_multiple
from figuresums.stretches.ends import ends_of
from figuresums.stretches.rests import counts_by_rest
from figuresums.stretches.told import beside, count_with, nth_with
from figuresums.stretches.totals import total_of
from figuresums.whole import Desk
from tests.oracle import BASES, GREATEST, carries_by_adding, drawn_numbers, edges_of, plain_sum, written

# Lines that are answered by a desk of base 10, for each word one.
GOOD_LINES = ("base 7", "add 5", "less 0", "show", "sum", "carries", "total 1 20", "with 1 20 3", "nth 3 2",
              "beside 12", "rests 1 20 4", "ends 1 20", "multiple 7 2")

# Where a number in the desk's base stands: the line ahead of it and behind it.
NUMBER_PLACES = (("add ", ""), ("less ", ""), ("total ", " 99"), ("total 0 ", ""), ("with ", " 99 5"),
                 ("with 0 ", " 5"), ("beside ", ""), ("rests ", " 99 5"), ("rests 0 ", " 5"), ("ends ", " 99"),
                 ("ends 0 ", ""))
# The same for numbers in figures of ten.
TEN_PLACES = (("base ", ""), ("with 0 99 ", ""), ("nth ", " 0"), ("nth 1 ", ""), ("rests 0 99 ", ""),
              ("multiple ", " 9"), ("multiple 9 ", ""))


def desk_of(base, *lines):
    desk = Desk()
    desk.ask(f"base {base}")
    for line in lines:
        desk.ask(line)
    return desk


def told_of(desk):
    """What a desk tells of itself; the ends of 0 to 11 tell its base."""
    return [desk.ask(line) for line in ("show", "sum", "carries", "ends 0 11")]


class DeskCase(unittest.TestCase):
    def refused(self, desk, line, kind, place=None):
        """The line is refused so, and changes nothing."""
        before = told_of(desk)
        with self.subTest(line=line, kind=kind.__name__):
            with self.assertRaises(SumError) as caught:
                desk.ask(line)
            self.assertIs(type(caught.exception), kind)
            self.assertIsInstance(caught.exception, ValueError)
            if place is not None:
                self.assertEqual(caught.exception.place, place)
        self.assertEqual(told_of(desk), before)


class LinesTest(unittest.TestCase):
    def test_at_first(self):
        desk = Desk()
        self.assertEqual(told_of(desk), [["0"], ["0"], ["0"], ["9 9", "0 0"]])
        self.assertEqual(desk.ask("with 0 99 9"), ["10"])

    def test_the_kept_number(self):
        desk = Desk()
        self.assertEqual(desk.ask("add 999"), [])
        self.assertEqual(desk.ask("show"), ["999"])
        self.assertEqual(desk.ask("sum"), ["27"])
        self.assertEqual(desk.ask("carries"), ["0"])
        self.assertEqual(desk.ask("add 1"), [])
        self.assertEqual(desk.ask("show"), ["1000"])
        self.assertEqual(desk.ask("carries"), ["3"])
        self.assertEqual(desk.ask("less 1"), [])
        self.assertEqual([desk.ask(word) for word in ("show", "sum", "carries")], [["999"], ["27"], ["3"]])
        self.assertEqual(desk.ask("less 999"), [])
        self.assertEqual([desk.ask(word) for word in ("show", "sum", "carries")], [["0"], ["0"], ["3"]])

    def test_base_begins_anew(self):
        desk = Desk()
        for line in ("add 999", "add 1"):
            desk.ask(line)
        self.assertEqual(desk.ask("base 16"), [])
        self.assertEqual(told_of(desk), [["0"], ["0"], ["0"], ["15 f", "0 0"]])
        desk.ask("add ff")
        desk.ask("add 1")
        self.assertEqual(told_of(desk), [["100"], ["1"], ["2"], ["15 f", "0 0"]])
        self.assertEqual(desk.ask("base 16"), [])
        self.assertEqual(told_of(desk), [["0"], ["0"], ["0"], ["15 f", "0 0"]])
        self.assertEqual(desk.ask("base 2"), [])
        self.assertEqual(told_of(desk), [["0"], ["0"], ["0"], ["2 11", "0 0"]])
        self.assertEqual(desk.ask("base 10"), [])
        self.assertEqual(told_of(desk), told_of(Desk()))

    def test_what_is_written_in_the_base(self):
        desk = desk_of(16, "add ff")
        self.assertEqual(desk.ask("show"), ["ff"])
        self.assertEqual(desk.ask("sum"), ["30"])
        self.assertEqual(desk.ask("nth 30 0"), ["ff"])
        self.assertEqual(desk.ask("beside 1e"), ["f 2d"])
        self.assertEqual(desk.ask("ends 10 1f"), ["16 1f", "1 10"])
        self.assertEqual(desk.ask("multiple 17 2"), ["11"])

    def test_what_is_in_figures_of_ten(self):
        desk = desk_of(2, "add 1111111111", "add 1")
        self.assertEqual(desk.ask("carries"), ["10"])
        self.assertEqual(desk.ask("less 1"), [])
        self.assertEqual(desk.ask("sum"), ["10"])
        self.assertEqual(desk.ask("total 0 111"), ["12"])
        self.assertEqual(desk.ask("with 0 11111 2"), ["10"])
        self.assertEqual(desk.ask("rests 0 11111 3"), ["11 10 11"])
        self.assertEqual(desk.ask("ends 0 1111111111"), ["10 1111111111", "0 0"])
        self.assertEqual(desk.ask("nth 10 0"), ["1111111111"])
        self.assertEqual(desk.ask("nth 1 12"), ["1000000000000"])
        self.assertEqual(desk.ask("multiple 10 2"), ["1010"])

    def test_totals_withs_and_rests(self):
        desk = Desk()
        self.assertEqual(desk.ask("total 0 99"), ["900"])
        self.assertEqual(desk.ask("total 7 7"), ["7"])
        self.assertEqual(desk.ask("with 10 99 9"), ["9"])
        self.assertEqual(desk.ask("with 0 99 19"), ["0"])
        self.assertEqual(desk.ask("rests 0 9 3"), ["4 3 3"])
        self.assertEqual(desk.ask("rests 0 9 1"), ["10"])
        self.assertEqual(desk.ask("ends 10 30"), ["11 29", "1 10"])
        self.assertEqual(desk.ask("ends 5 5"), ["5 5", "5 5"])

    def test_none(self):
        desk = Desk()
        self.assertEqual(desk.ask("nth 0 0"), ["0"])
        self.assertEqual(desk.ask("nth 0 1"), ["none"])
        self.assertEqual(desk.ask("nth 2 3"), ["101"])
        self.assertEqual(desk.ask("beside 0"), ["none none"])
        self.assertEqual(desk.ask("beside 1"), ["none 10"])
        self.assertEqual(desk.ask("beside 18"), ["9 27"])
        self.assertEqual(desk.ask("multiple 11 1"), ["none"])
        self.assertEqual(desk.ask("multiple 7 2"), ["1001"])

    def test_what_is_told_is_the_askers_own(self):
        desk = desk_of(10, "add 12")
        for line in ("show", "sum", "carries", "total 0 99", "ends 1 20", "beside 5", "add 0", "base 10"):
            told = desk.ask(line)
            self.assertIs(type(told), list)
            self.assertEqual({type(row) for row in told} | {str}, {str})
            told.append("changed")
            told[0] = "changed"
        self.assertEqual(told_of(desk), told_of(Desk()))
        self.assertEqual(desk.ask("add 0"), [])
        self.assertEqual(desk.ask("ends 1 20"), ["10 19", "1 1"])

    def test_two_desks_beside_one_another(self):
        one, other = Desk(), Desk()
        one.ask("add 9")
        other.ask("base 2")
        one.ask("add 1")
        other.ask("add 101")
        self.assertEqual(told_of(one), [["10"], ["1"], ["1"], ["9 9", "0 0"]])
        self.assertEqual(told_of(other), [["101"], ["2"], ["0"], ["2 11", "0 0"]])


class OtherLinesTest(DeskCase):
    def test_each_good_line_is_answered(self):
        for line in GOOD_LINES:
            Desk().ask(line)

    def test_words_too_many_or_too_few(self):
        desk = desk_of(10, "add 45")
        for line in GOOD_LINES:
            self.refused(desk, line + " 1", NoAsk)
            self.refused(desk, line + " x", NoAsk)
            if " " in line:
                self.refused(desk, line.rpartition(" ")[0], NoAsk)
                self.refused(desk, line.partition(" ")[0], NoAsk)

    def test_other_words(self):
        desk = desk_of(10, "add 45")
        for line in ("", "x", "Show", "SHOW", "shows", "sho", "number", "less5", "add5", "none", "times 5", "5",
                     "_add 5", "__init__", "kept", "figures 5", "0", "ask show", "~", "!"):
            self.refused(desk, line, NoAsk)

    def test_blanks_ahead_behind_and_between(self):
        desk = desk_of(10, "add 45")
        for line in GOOD_LINES:
            self.refused(desk, " " + line, NoAsk)
            self.refused(desk, "  " + line, NoAsk)
            self.refused(desk, line + " ", NoAsk)
            if line.count(" ") > 0:
                self.refused(desk, line.replace(" ", "  ", 1), NoAsk)
        for line in (" ", "  ", " " * 300):
            self.refused(desk, line, NoAsk)

    def test_an_empty_number_is_refused_as_a_number(self):
        desk = desk_of(10, "add 45")
        for line in ("add ", "less ", "beside ", "total  5", "total 5 ", "total  ", "ends  5", "ends 5 ",
                     "with  5 5", "with 5  5", "with   5", "rests  5 5", "rests 5  5"):
            self.refused(desk, line, NoNumber, 0)

    def test_an_empty_number_in_figures_of_ten(self):
        desk = desk_of(10, "add 45")
        for line in ("base ", "with 1 5 ", "nth 5 ", "nth  5", "nth  ", "rests 1 5 ", "multiple  5", "multiple 5 "):
            self.refused(desk, line, NoAsk)

    def test_line_ends(self):
        desk = desk_of(10, "add 45")
        for line in GOOD_LINES:
            self.refused(desk, "\n" + line, NoAsk)
            if line.count(" ") == 0:
                self.refused(desk, line + "\n", NoAsk)
            else:
                self.refused(desk, line.replace(" ", "\n"), NoAsk)
        for line, place in (("add 5\n", 1), ("beside 12\n", 2), ("total 1\n 5", 1), ("total 1 5\n", 1),
                            ("ends \n1 5", 0)):
            self.refused(desk, line, NoNumber, place)
        for line in ("base 7\n", "nth 3 2\n", "multiple 7 2\n", "rests 1 5 3\n", "with 1 5 3\n", "\n"):
            self.refused(desk, line, NoAsk)


class NumbersTest(DeskCase):
    def test_no_numbers_of_the_base(self):
        for base in BASES:
            desk = desk_of(base, "add 1")
            beyond = "0123456789abcdefg"[base]
            for ahead, behind in NUMBER_PLACES:
                behind = behind.replace("99", "1" * 5)
                for text, place in ((beyond, 0), ("1" + beyond, 1), ("101" + beyond + "1", 3), ("-1", 0), ("+1", 0),
                                    ("01", 0), ("00", 0), ("1-", 1), ("A", 0), ("1.0", 1), ("1_1", 1), ("~", 0),
                                    ("1\n", 1), ("0" * 290, 0), ("1" * 280 + "x", 280), ("none", 0)):
                    self.refused(desk, ahead + text + behind, NoNumber, place)

    def test_greatest_numbers(self):
        for base in BASES:
            desk = desk_of(base)
            greatest = written(GREATEST, base)
            self.assertEqual(desk.ask(f"total {greatest} {greatest}"), [str(plain_sum(GREATEST, base))])
            self.assertEqual(desk.ask(f"with {greatest} {greatest} {plain_sum(GREATEST, base)}"), ["1"])
            self.assertEqual(desk.ask(f"rests 0 {greatest} 1"), [str(GREATEST + 1)])
            told = f"{plain_sum(GREATEST, base)} {greatest}"
            self.assertEqual(desk.ask(f"ends {greatest} {greatest}"), [told, told])
            self.assertEqual(len(desk.ask(f"beside {greatest}")), 1)
            self.assertEqual(desk.ask(f"add {greatest}"), [])
            self.assertEqual(desk.ask("show"), [greatest])
            self.assertEqual(desk.ask(f"less {greatest}"), [])

    def test_numbers_above_the_greatest(self):
        for base in BASES:
            desk = desk_of(base, "add 1")
            one_more = written(GREATEST + 1, base)
            for text in (one_more, one_more + "0", "1" * 250, "1" + "0" * 250):
                for line in (f"add {text}", f"less {text}", f"beside {text}", f"total 0 {text}", f"ends 1 {text}",
                             f"total {text} {text}", f"with 0 {text} 5", f"rests 0 {text} 5"):
                    self.refused(desk, line, NoAsk)

    def test_what_the_kept_number_refuses(self):
        for base in BASES:
            greatest = written(GREATEST, base)
            desk = desk_of(base)
            self.refused(desk, "less 1", NoStretch)
            self.refused(desk, f"less {greatest}", NoStretch)
            desk.ask(f"add {greatest}")
            self.refused(desk, "add 1", NoStretch)
            self.refused(desk, f"add {greatest}", NoStretch)
            self.assertEqual(desk.ask("add 0"), [])
            desk.ask("less 1")
            self.refused(desk, "add 10", NoStretch)
            self.assertEqual(desk.ask("add 1"), [])
            self.assertEqual(desk.ask("show"), [greatest])

    def test_what_is_no_stretch(self):
        for base in BASES:
            greatest, less = written(GREATEST, base), written(GREATEST - 1, base)
            desk = desk_of(base, "add 1")
            for pair in ("1 0", "11 10", f"{greatest} {less}", f"{greatest} 0"):
                for line in (f"total {pair}", f"ends {pair}", f"with {pair} 1", f"with {pair} 1000000",
                             f"rests {pair} 7"):
                    self.refused(desk, line, NoStretch)


class LimitsTest(DeskCase):
    KEPT = ("base 2", "base 16", "base 10", "with 0 9 0", "with 0 9 1000000", "nth 0 0", "nth 300 0",
            f"nth 1 {10 ** 30}", f"nth 0 {10 ** 30}", "rests 0 9 1", "rests 0 9 60", "multiple 1 1",
            "multiple 60 1", "multiple 1 100", "multiple 60 100")
    BROKEN = ("base 0", "base 1", "base 17", "base 100", "with 0 9 1000001", "with 0 9 9999999", "nth 301 0",
              f"nth 1 {10 ** 30 + 1}", f"nth 0 {10 ** 31}", "nth 1000000 0", "rests 0 9 0", "rests 0 9 61",
              "rests 0 9 1000000", "multiple 0 1", "multiple 61 1", "multiple 1 0", "multiple 1 101",
              "multiple 60 1000000", "multiple 0 0")

    def test_just_kept(self):
        for base in BASES:
            for line in self.KEPT:
                with self.subTest(line=line, base=base):
                    desk_of(base).ask(line.replace("9 ", "1 "))

    def test_just_broken(self):
        for base in BASES:
            desk = desk_of(base, "add 1")
            for line in self.BROKEN:
                self.refused(desk, line.replace("9 ", "1 ") if base < 10 else line, NoAsk)

    def test_all_bases(self):
        desk = Desk()
        for base in range(40):
            desk.ask("base 10")
            desk.ask("add 5")
            if 2 <= base <= 16:
                self.assertEqual(desk.ask(f"base {base}"), [])
                desk.ask("add 10")
                self.assertEqual(desk.ask(f"with 0 {written(base, base)} 1"), ["2"])
                self.assertEqual(desk.ask(f"ends 0 {written(base, base)}")[0].split(" ")[0], str(base - 1))
            else:
                self.refused(desk, f"base {base}", NoAsk)

    def test_no_numbers_in_figures_of_ten(self):
        for base in (2, 10, 16):
            desk = desk_of(base, "add 1")
            for ahead, behind in TEN_PLACES:
                ahead = ahead.replace("99", "11")
                for text in ("", "x", "-1", "+1", "05", "00", "0" * 9, "5.", "5.0", "1_0", "a", "f", "1a", "5\n",
                             "\n5", "~", "five", "none", "9" * 200, "1" + "0" * 200):
                    self.refused(desk, ahead + text + behind, NoAsk)

    def test_noughts_alone_where_they_are_taken(self):
        desk = Desk()
        self.assertEqual(desk.ask("with 0 9 0"), ["1"])
        self.assertEqual(desk.ask("nth 0 0"), ["0"])
        self.assertEqual(desk.ask("nth 5 0"), ["5"])


class OrderTest(DeskCase):
    def test_first_what_the_line_is_refused_for(self):
        desk = desk_of(10, "add 45")
        above = str(GREATEST + 1)
        for line in ("with x 5 x", "with x x 1000001", "with 9 5 1000001", "with 9 5 05", f"with {above} 5 ",
                     "rests x 5 0", "rests 9 5 61", "rests 5 x ", f"rests {above} x 0", "total x", "total x y z",
                     "add x y", "less x 99", "ends x", "beside x y", "with x y", "rests x y", "shows x",
                     "add 99999  ", "less 99999 99999"):
            self.refused(desk, line, NoAsk)

    def test_then_numbers_first_ahead_of_last(self):
        desk = desk_of(10, "add 45")
        above = str(GREATEST + 1)
        for word, behind in (("total", ""), ("ends", ""), ("with", " 5"), ("rests", " 7")):
            self.refused(desk, f"{word} 12x 1y{behind}", NoNumber, 2)
            self.refused(desk, f"{word} 1y 12x{behind}", NoNumber, 1)
            self.refused(desk, f"{word} 12x {behind}", NoNumber, 2)
            self.refused(desk, f"{word}  12x{behind}", NoNumber, 0)
            self.refused(desk, f"{word} {above} 12x{behind}", NoNumber, 2)
            self.refused(desk, f"{word} 12x {above}{behind}", NoNumber, 2)

    def test_then_numbers_above_the_greatest(self):
        desk = desk_of(10, "add 45")
        above, far = str(GREATEST + 1), "9" * 280
        for word, behind in (("total", ""), ("ends", ""), ("with", " 5"), ("rests", " 7")):
            for high in (above, far):
                # The first one is greater than the last one, too.
                self.refused(desk, f"{word} {high} 5{behind}", NoAsk)
                self.refused(desk, f"{word} {high} {above}{behind}", NoAsk)
                self.refused(desk, f"{word} 5 {high}{behind}", NoAsk)
        # The kept number refuses these, too.
        self.refused(desk, f"add {above}", NoAsk)
        self.refused(desk, f"less {above}", NoAsk)

    def test_no_stretch_is_the_last(self):
        desk = desk_of(10, "add 45")
        greatest = str(GREATEST)
        for word, behind in (("total", ""), ("ends", ""), ("with", " 1000000"), ("rests", " 60")):
            self.refused(desk, f"{word} {greatest} 5{behind}", NoStretch)
        self.refused(desk, f"add {greatest}", NoStretch)
        self.refused(desk, "less 46", NoStretch)


def shown(number, base):
    return "none" if number is None else number_shown(number, base)


class WhatTheFunctionsTellTest(unittest.TestCase):
    """The desk tells what the functions tell of its base."""

    def stretch_lines(self, desk, first, last, base, told, divisor):
        pair = f"{written(first, base)} {written(last, base)}"
        self.assertEqual(desk.ask(f"total {pair}"), [str(total_of(first, last, base))])
        self.assertEqual(desk.ask(f"with {pair} {told}"), [str(count_with(first, last, told, base)[0])])
        rests = counts_by_rest(first, last, divisor, base)
        self.assertEqual(desk.ask(f"rests {pair} {divisor}"), [" ".join(map(str, rests))])
        rows = [f"{total} {written(number, base)}" for total, number in ends_of(first, last, base)]
        self.assertEqual(desk.ask(f"ends {pair}"), rows)

    def test_stretches(self):
        for base in BASES:
            desk = desk_of(base)
            edges = sorted(edges_of(base) + drawn_numbers(20, GREATEST, base))
            for place, (first, last) in enumerate(zip(edges, edges[3:] + edges[-1:] * 3)):
                told = plain_sum(last, base) if place % 2 else place * 3
                with self.subTest(first=first, last=last, base=base):
                    self.stretch_lines(desk, first, last, base, told, 1 + place * 7 % 60)
            self.assertEqual(desk.ask("show"), ["0"])

    def test_small_stretches_by_going_through(self):
        for base in BASES:
            desk = desk_of(base)
            for first, last in ((0, 0), (0, 50), (17, 80), (base, base ** 2)):
                numbers = range(first, last + 1)
                sums = [plain_sum(number, base) for number in numbers]
                pair = f"{written(first, base)} {written(last, base)}"
                self.assertEqual(desk.ask(f"total {pair}"), [str(sum(sums))])
                self.assertEqual(desk.ask(f"with {pair} 4"), [str(sums.count(4))])
                rests = [sum(total % 6 == rest for total in sums) for rest in range(6)]
                self.assertEqual(desk.ask(f"rests {pair} 6"), [" ".join(map(str, rests))])
                rows = [f"{end} {written(numbers[sums.index(end)], base)}" for end in (max(sums), min(sums))]
                self.assertEqual(desk.ask(f"ends {pair}"), rows)

    def test_the_so_manieth(self):
        for base in BASES:
            desk = desk_of(base)
            for told in (0, 1, 2, 9, 30, 100, 299, 300):
                for place in (0, 1, 2, 77, 10 ** 9, GREATEST):
                    with self.subTest(told=told, place=place, base=base):
                        answer = [shown(nth_with(place, told, base), base)]
                        self.assertEqual(desk.ask(f"nth {told} {place}"), answer)

    def test_those_beside(self):
        for base in BASES:
            desk = desk_of(base)
            for number in list(range(30)) + edges_of(base) + drawn_numbers(20, GREATEST, base):
                with self.subTest(number=number, base=base):
                    lesser, greater = beside(number, base)
                    answer = [f"{shown(lesser, base)} {shown(greater, base)}"]
                    self.assertEqual(desk.ask(f"beside {written(number, base)}"), answer)

    def test_multiples(self):
        for base in BASES:
            desk = desk_of(base)
            for divisor in (1, 2, 7, 11, 29, 59, 60):
                for told in (1, 2, 5, 31, 99, 100):
                    with self.subTest(divisor=divisor, told=told, base=base):
                        answer = [shown(least_multiple(divisor, told, base), base)]
                        self.assertEqual(desk.ask(f"multiple {divisor} {told}"), answer)


class ManyDeedsTest(unittest.TestCase):
    """Behind two hundred deeds and refusals a desk tells what its number tells."""

    def drawn_lines(self, base, seed):
        lines = []
        for turn, number in enumerate(drawn_numbers(200, GREATEST, seed)):
            number = GREATEST - number if number % 5 == 0 else number
            lines.append(f"{'less' if turn % 3 == 2 else 'add'} {written(number, base)}")
            lines.append(("show", "total 5 4", "add", "base 1", "less 0", "with 0 1 1000001", "add 01")[turn % 7])
        return lines

    def test_deeds_and_refusals(self):
        for base in BASES:
            desk, kept_lines = desk_of(base), []
            number = carries = 0
            for line in self.drawn_lines(base, 31 * base):
                try:
                    told = desk.ask(line)
                except SumError:
                    continue
                word, _, text = line.partition(" ")
                if word == "show":
                    self.assertEqual(told, [written(number, base)])
                    continue
                self.assertEqual(told, [])
                kept_lines.append(line)
                change = int(text, base)
                if word == "add":
                    carries += carries_by_adding(number, change, base)
                number += change if word == "add" else -change
                self.assertIn(number, range(GREATEST + 1))
                self.assertEqual(desk.ask("show"), [written(number, base)])
                self.assertEqual(desk.ask("sum"), [str(plain_sum(number, base))])
                self.assertEqual(desk.ask("carries"), [str(carries)])
            self.assertGreater(len(kept_lines), 60)
            self.assertEqual(told_of(desk_of(base, *kept_lines)), told_of(desk))

    def test_bases_in_turn(self):
        desk = Desk()
        for turn in range(200):
            base = 2 + turn * 5 % 15
            desk.ask(f"base {base}")
            desk.ask(f"add {written(turn * 37, base)}")
            self.assertEqual(desk.ask("show"), [written(turn * 37, base)])
            self.assertEqual(desk.ask("sum"), [str(plain_sum(turn * 37, base))])
            self.assertEqual(desk.ask("carries"), ["0"])


if __name__ == "__main__":
    unittest.main()
