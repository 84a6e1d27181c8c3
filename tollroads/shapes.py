"""What values look like: integers, tuples of things and ratios, told apart from all other values."""

from math import gcd


def is_whole(value, low, high):
    """Tell whether a value is an integer from low to high; True and False are none."""
    return is_integer(value) and low <= value <= high


def is_integer(value):
    # Python counts True and False as integers, the document does not.
    return isinstance(value, int) and not isinstance(value, bool)


def is_row(value, low, high):
    """Tell whether a value is a tuple of low to high things."""
    return isinstance(value, tuple) and low <= len(value) <= high


def is_ratio(value):
    """Tell whether a value is a pair (top, bottom) in its lowest terms, the bottom positive."""
    if not is_row(value, 2, 2):
        return False
    top, bottom = value
    return is_integer(top) and is_integer(bottom) and bottom > 0 and gcd(top, bottom) == 1


def is_amount(value):
    """Tell whether a value is a ratio from 0 on."""
    return is_ratio(value) and value[0] >= 0


def is_demand(value):
    """Tell whether a value is a ratio as the demand of a trip is."""
    return is_ratio(value) and 0 < value[0] <= 1000 and value[1] <= 100


def are_amounts(value, many):
    """Tell whether a value is a tuple of so many ratios from 0 on."""
    return is_row(value, many, many) and all([is_amount(part) for part in value])


def is_ascending(rows):
    """Tell whether each of the rows is greater than the one before it."""
    return all([earlier < later for earlier, later in zip(rows, rows[1:])])
