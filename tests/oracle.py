"""What the tests compare with: going through numbers, and counting figure by figure.

Nothing here uses the program, so that a fault of it cannot hide behind itself.
"""

BASES = range(2, 17)
GREATEST = 10 ** 30
FAIR = 10 ** 12


def figures(number, base):
    """The figures of a number, the last place first."""
    told = [number % base]
    while number >= base:
        number //= base
        told.append(number % base)
    return told


def plain_sum(number, base):
    return sum(figures(number, base))


def weighed_sum(number, weights, base):
    total = 0
    for place, figure in enumerate(figures(number, base)):
        total += figure * weights[place % len(weights)]
    return total


def states_to(last, base, begin, grow):
    """How many numbers from 0 to last come to each state.

    grow(state, figure, place) tells the state behind a figure. The figures are taken
    from the greatest place on, and numbers less than last are counted together as soon
    as they differ from it. A nought ahead of a number must change nothing.
    """
    counts = {}
    edge = begin
    row = figures(last, base)
    for place in reversed(range(len(row))):
        grown = {}
        for state, count in counts.items():
            for figure in range(base):
                following = grow(state, figure, place)
                grown[following] = grown.get(following, 0) + count
        for figure in range(row[place]):
            following = grow(edge, figure, place)
            grown[following] = grown.get(following, 0) + 1
        edge = grow(edge, row[place], place)
        counts = grown
    counts[edge] = counts.get(edge, 0) + 1
    return counts


def states_in(first, last, base, begin, grow):
    """How many numbers from first to last come to each state."""
    counts = states_to(last, base, begin, grow)
    if first > 0:
        for state, count in states_to(first - 1, base, begin, grow).items():
            counts[state] -= count
    return counts


def sums_in(first, last, base):
    """How many numbers from first to last have each sum."""
    return states_in(first, last, base, 0, lambda total, figure, place: total + figure)


def edges_of(base):
    """Numbers at which something may go over: noughts, powers, the greatest ones."""
    numbers = [0, 1, base - 1, base, base + 1, base ** 2 - 1, base ** 2, 12345]
    numbers += [base ** 6 - 1, base ** 6, base ** 6 + 1, FAIR - 1, FAIR, 5 * 10 ** 20 + 77]
    return numbers + [base ** 24 - 1, base ** 24, 3 * 7 ** 30, GREATEST - 1, GREATEST]


def small_stretches(base):
    """Stretches of few numbers, small ones, over powers, and up to the greatest number."""
    stretches = [(first, last) for first in range(0, 20) for last in range(first, 20)]
    stretches += [(0, 100), (1, 101), (37, 158), (0, base ** 2 - 1), (0, base ** 2)]
    for power in (base ** 2, base ** 3, base ** 6, base ** 24):
        stretches += [(power - base - 1, power - 1), (power - base, power + base + 1)]
        stretches += [(power, power + 2 * base), (power - 1, power), (power, power)]
    return stretches + [(GREATEST - 40, GREATEST), (GREATEST - 1, GREATEST), (FAIR - 40, FAIR + 3)]


def refused_stretches():
    """Pairs that are no stretches: the first number is greater than the last one."""
    pairs = [(1, 0), (5, 4), (10, 9), (100, 9), (GREATEST, 0), (GREATEST, GREATEST - 1)]
    return pairs + [(FAIR, FAIR - 1)]


def written(number, base):
    """The text of a number in a base."""
    return "".join("0123456789abcdef"[figure] for figure in reversed(figures(number, base)))


def carries_by_adding(one, other, base):
    """How many carries are made when two numbers are added place by place."""
    carry = carries = 0
    while one > 0 or other > 0 or carry > 0:
        carry = (one % base + other % base + carry) // base
        carries += carry
        one, other = one // base, other // base
    return carries


def least_multiples(divisor, base, most):
    """For each sum to most the least number from 1 on with the sum that is divided.

    The numbers are taken by how many figures they have, then in their order. Of all
    with the same rest and the same sum only the first can be the head of a least one.
    """
    heads = {}
    row = [(figure, figure) for figure in range(1, base)]
    while row:
        following = []
        for number, total in row:
            state = (number % divisor, total)
            if total <= most and state not in heads:
                heads[state] = number
                following += [(number * base + figure, total + figure) for figure in range(base)]
        row = following
    return {total: number for (rest, total), number in heads.items() if rest == 0}


def drawn_numbers(many, most, seed):
    """Numbers from 0 to most of all lengths, the same ones at each run."""
    drawn = []
    state = seed
    for _ in range(many):
        state = (state * 6364136223846793005 + 1442695040888963407) % 2 ** 64
        size = 1 + (state >> 33) % most.bit_length()
        number = 0
        for _ in range(0, size, 30):
            state = (state * 6364136223846793005 + 1442695040888963407) % 2 ** 64
            number = number << 30 | state >> 34
        drawn.append(min(number % 2 ** size, most))
    return drawn
