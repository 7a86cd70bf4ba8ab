"""Fractions as tuples (top, bottom) in least terms, and rows of them."""

from math import gcd, lcm

NOUGHT = (0, 1)
ONE = (1, 1)


def is_integer(value):
    """Whether any value is an integer; a bool is none."""
    return isinstance(value, int) and not isinstance(value, bool)


def is_fraction(value):
    """Whether any value is a fraction in least terms."""
    if not isinstance(value, tuple) or len(value) != 2:
        return False
    top, bottom = value
    return is_integer(top) and is_integer(bottom) and bottom >= 1 and gcd(top, bottom) == 1


def ratio(top, bottom):
    """top divided by bottom, which is not 0, in least terms."""
    shared = gcd(top, bottom)
    if bottom < 0:
        shared = -shared
    return (top // shared, bottom // shared)


def plus(one, other):
    """The sum of two fractions."""
    return ratio(one[0] * other[1] + other[0] * one[1], one[1] * other[1])


def minus(one, other):
    """One fraction less the other one."""
    return ratio(one[0] * other[1] - other[0] * one[1], one[1] * other[1])


def times(one, other):
    """The product of two fractions."""
    return ratio(one[0] * other[0], one[1] * other[1])


def divided(one, other):
    """One fraction divided by the other one, which is not 0."""
    return ratio(one[0] * other[1], one[1] * other[0])


def is_less(one, other):
    """Whether one fraction is less than the other one."""
    return one[0] * other[1] < other[0] * one[1]


def least(fractions):
    """The least of some fractions, at least one."""
    found = fractions[0]
    for fraction in fractions:
        if is_less(fraction, found):
            found = fraction
    return found


def is_row(value, many):
    """Whether any value is a row of so many fractions."""
    return isinstance(value, tuple) and len(value) == many and all([is_fraction(part) for part in value])


def noughts(many):
    """The row of so many noughts."""
    return (NOUGHT,) * many


def is_noughts(row):
    """Whether a row is nothing but noughts."""
    return all([part == NOUGHT for part in row])


def led_on(row, many):
    """The row, with noughts behind it up to so many fractions."""
    return row + noughts(many - len(row))


def row_sum(one, other):
    """The sum of two rows, place by place."""
    return tuple([plus(a, b) for a, b in zip(one, other)])


def row_less(one, other):
    """One row less the other one, place by place."""
    return tuple([minus(a, b) for a, b in zip(one, other)])


def row_times(row, factor):
    """The row, multiplied by a fraction place by place."""
    return tuple([times(part, factor) for part in row])


def row_product(one, other):
    """The sum of the products of two rows, place by place."""
    total = NOUGHT
    for a, b in zip(one, other):
        total = plus(total, times(a, b))
    return total


def square(row):
    """The product of a row with itself."""
    return row_product(row, row)


def whole(row):
    """(integers, factor): the fractions of a row times the least whole factor that leaves no bottoms."""
    factor = 1
    for part in row:
        factor = lcm(factor, part[1])
    return [part[0] * (factor // part[1]) for part in row], factor


def whole_rows(rows):
    """(rows of integers, factor): as whole, with one factor for all these rows of as many fractions."""
    parts, factor = whole([part for row in rows for part in row])
    width = len(rows[0]) if rows else 1
    return [tuple(parts[at:at + width]) for at in range(0, len(parts), width)], factor


def ratio_rows(rows, bottom):
    """The rows of integers, each of them divided by the bottom."""
    return tuple([tuple([ratio(top, bottom) for top in row]) for row in rows])
