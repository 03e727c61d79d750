"""A desk that answers lines: what the program tells, asked for in words."""

from figuresums.errors import NoAsk, NoNumber
from figuresums.figures.written import number_shown, read_number
from figuresums.kept import MOST_NUMBER, KeptNumber
from figuresums.others.multiples import least_multiple
from figuresums.stretches.ends import ends_of
from figuresums.stretches.rests import counts_by_rest
from figuresums.stretches.told import beside, count_with, nth_with
from figuresums.stretches.totals import total_of

FIRST_BASE = 10

# What stands behind each word: so many numbers in the desk's base, then for each number
# in figures of ten the least and the greatest one that is taken.
FORMS = {
    "base": (0, ((2, 16),)),
    "add": (1, ()),
    "less": (1, ()),
    "show": (0, ()),
    "sum": (0, ()),
    "carries": (0, ()),
    "total": (2, ()),
    "with": (2, ((0, 10 ** 6),)),
    "nth": (0, ((0, 300), (0, 10 ** 30))),
    "beside": (1, ()),
    "rests": (2, ((1, 60),)),
    "ends": (2, ()),
    "multiple": (0, ((1, 60), (1, 100))),
}


def _numbers_of(word, others, base):
    """The numbers that stand behind a word; refused in the order that the document tells."""
    if word not in FORMS:
        raise NoAsk("no line begins with this word")
    many, limits = FORMS[word]
    if len(others) != many + len(limits):
        raise NoAsk("too many words or too few")
    in_ten = [_read_in_ten(text, least, most) for text, (least, most) in zip(others[many:], limits)]
    in_base = [read_number(text, base) for text in others[:many]]
    if any([number > MOST_NUMBER for number in in_base]):
        raise NoAsk("numbers go to 10 ** 30")
    return in_base + in_ten


def _read_in_ten(text, least, most):
    """The number that a text writes in figures of ten; NoAsk where it writes none from least to most."""
    try:
        number = read_number(text, 10)
    except NoNumber:
        raise NoAsk("no number in figures of ten") from None
    if number < least or number > most:
        raise NoAsk("no number that is taken here")
    return number


def _shown_or_none(number, base):
    """A number as it is written in the base, or the word for none."""
    if number is None:
        return "none"
    return number_shown(number, base)


def _total(base, first, last):
    return [str(total_of(first, last, base))]


def _with(base, first, last, told):
    return [str(count_with(first, last, told, base)[0])]


def _nth(base, told, place):
    return [_shown_or_none(nth_with(place, told, base), base)]


def _beside(base, number):
    return [" ".join([_shown_or_none(other, base) for other in beside(number, base)])]


def _rests(base, first, last, divisor):
    return [" ".join([str(count) for count in counts_by_rest(first, last, divisor, base)])]


def _ends(base, first, last):
    return [f"{told} {number_shown(number, base)}" for told, number in ends_of(first, last, base)]


def _multiple(base, divisor, told):
    return [_shown_or_none(least_multiple(divisor, told, base), base)]


ANSWERS = {
    "total": _total,
    "with": _with,
    "nth": _nth,
    "beside": _beside,
    "rests": _rests,
    "ends": _ends,
    "multiple": _multiple,
}


class Desk:
    """Answers lines over a base and a kept number of it."""

    def __init__(self):
        self._base = FIRST_BASE
        self._kept = KeptNumber(FIRST_BASE)

    def ask(self, line):
        """The rows that a line asks for, as texts; no row where it changes something."""
        word, *others = line.split(" ")
        numbers = _numbers_of(word, others, self._base)
        if word in ANSWERS:
            answer = ANSWERS[word]
            return answer(self._base, *numbers)
        if word in ("base", "add", "less"):
            self._change(word, numbers[0])
            return []
        return [self._told_of_kept(word)]

    def _change(self, word, number):
        if word == "add":
            self._kept.add(number)
        elif word == "less":
            self._kept.less(number)
        else:
            self._base = number
            self._kept = KeptNumber(number)

    def _told_of_kept(self, word):
        if word == "show":
            return number_shown(self._kept.number_now(), self._base)
        if word == "sum":
            return str(self._kept.sum_now())
        return str(self._kept.carries_now())
