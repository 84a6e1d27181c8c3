"""Exact arithmetic on ratios, pairs (top, bottom) in their lowest terms with a positive bottom."""

from math import gcd, lcm

ZERO = (0, 1)
ONE = (1, 1)


def ratio(top, bottom):
    """Return top divided by bottom, which is not 0, in its lowest terms."""
    common = gcd(top, bottom)
    if bottom < 0:
        common = -common
    return (top // common, bottom // common)


def add(one, other):
    return ratio(one[0] * other[1] + other[0] * one[1], one[1] * other[1])


def subtract(one, other):
    return ratio(one[0] * other[1] - other[0] * one[1], one[1] * other[1])


def multiply(one, other):
    return ratio(one[0] * other[0], one[1] * other[1])


def divide(one, other):
    return ratio(one[0] * other[1], one[1] * other[0])


def less(one, other):
    """Tell whether one is smaller than the other."""
    return one[0] * other[1] < other[0] * one[1]


def add_all(rows):
    """Return the sum of ratios."""
    so_far = ZERO
    for row in rows:
        so_far = add(so_far, row)
    return so_far


def add_products(ones, others):
    """Return the sum of the products of the ratios that stand at the same places."""
    return add_all([multiply(one, other) for one, other in zip(ones, others)])


def on_one_bottom(rows):
    """Return the tops of ratios over their least common bottom, and that bottom."""
    common = 1
    for _, bottom in rows:
        common = lcm(common, bottom)
    return [top * (common // bottom) for top, bottom in rows], common
