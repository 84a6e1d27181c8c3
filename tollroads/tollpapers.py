"""What tolls for told routings and for told states of games have in common: the least takings and their papers.

A case offers `flows`, what is on each road, `least_pair`, the least takings and tolls with them or None, and
`are_tolls`, which tells whether a value is a tuple of tolls that suffice.
"""

from tollroads.ratios import add_products, less, multiply
from tollroads.shapes import is_ratio, is_row


def is_least_pair(case, value):
    """Tell whether a value is a pair of the least takings and tolls with them, or None where there are no tolls."""
    least = case.least_pair()
    if value is None:
        return least is None
    # Where there are no tolls, none can be told, so that there are least ones behind this question.
    if not (is_row(value, 2, 2) and is_ratio(value[0]) and case.are_tolls(value[1])):
        return False
    return value[0] == least[0] == add_products(case.flows, value[1])


def proves(case, found, added, spent):
    """Tell whether changes show that no tolls take less, if there are some, or that there are none.

    The changes are told by what they add to all roads and by the time that they take.
    """
    if not found:
        return spent[0] < 0 and all([more[0] <= 0 for more in added])
    least = case.least_pair()
    if least is None or any([less(flow, more) for more, flow in zip(added, case.flows)]):
        return False
    return spent == multiply((-1, 1), least[0])
