"""Numbers read from and shown by figures, and the sums of their figures."""

from figuresums.errors import NoNumber

# The document's figures end at f. The signs behind it serve only bases
# somewhat above 16, with which no function may fail.
SIGNS = "0123456789abcdefghijklmnopqrstuvwxyz"


def read_number(text, base):
    """The number that a text writes in a base; NoNumber where it writes none."""
    if text == "":
        raise NoNumber(0)
    if text[0] == "0" and len(text) > 1:
        raise NoNumber(0)
    number = 0
    for place, sign in enumerate(text):
        figure = SIGNS.find(sign)
        if figure < 0 or figure >= base:
            raise NoNumber(place)
        number = number * base + figure
    return number


def number_shown(number, base):
    """The text that writes a number in a base."""
    return "".join([SIGNS[figure] for figure in figures_of(number, base)])


def figures_of(number, base):
    """The figures of a number as a tuple, the greatest place first."""
    figures = []
    while number >= base:
        number, figure = divmod(number, base)
        figures.append(figure)
    figures.append(number)
    return tuple(figures[::-1])


def sum_of(number, base):
    """The sum of a number's figures."""
    return sum(figures_of(number, base))


def root_of(number, base):
    """The one figure that is left when sums are taken of sums."""
    while number >= base:
        number = sum_of(number, base)
    return number
