"""Reductions: steps that make a single road of a net in which no road can harm."""

from tollroads.nets import linked_ways, roads_on
from tollroads.shapes import is_integer, is_row


def ends_of(net, table):
    """Return a dict with, for each road that lies on a way, its start and its end."""
    return {road: net[1][road][:2] for road in roads_on(table)}


def fits(ends, start, goal, step):
    """Tell whether a triple of a word and two roads that are there can be the next step."""
    word, one, other = step
    if word == "side":
        return one < other and ends[one] == ends[other]
    node = ends[one][1]
    if word != "row" or node == start or node == goal:
        return False
    begin = [road for road in ends if ends[road][0] == node]
    end = [road for road in ends if ends[road][1] == node]
    return begin == [other] and end == [one]


def after(ends, step):
    """Return the starts and ends behind a step that fits."""
    word, one, other = step
    left = {road: ends[road] for road in ends if road != other}
    if word == "row":
        left[one] = (ends[one][0], ends[other][1])
    return left


def first_step(ends, start, goal):
    """Return a step that fits, None if there is none."""
    for one in ends:
        for other in ends:
            for word in ("side", "row"):
                if fits(ends, start, goal, (word, one, other)):
                    return (word, one, other)
    return None


def reduction(net, start, goal):
    """Return a reduction, None if there is none.

    Whatever step is made first, what can be reached behind it is the same but for the names of the roads. So no step
    ever has to be taken back.
    """
    ends = ends_of(net, linked_ways(net, start, goal))
    steps = []
    step = first_step(ends, start, goal)
    while step is not None:
        ends = after(ends, step)
        steps.append(step)
        step = first_step(ends, start, goal)
    if len(ends) > 1:
        return None
    return tuple(steps)


def is_step(ends, value):
    """Tell whether a value is a triple of something and two roads that are there."""
    return is_row(value, 3, 3) and all([is_integer(road) and road in ends for road in value[1:]])


def shows_reduction(net, start, goal, value):
    """Tell whether a value is a reduction, or None where there is none."""
    ends = ends_of(net, linked_ways(net, start, goal))
    if value is None:
        return reduction(net, start, goal) is None
    if not isinstance(value, tuple):
        return False
    for step in value:
        if not (is_step(ends, step) and fits(ends, start, goal, step)):
            return False
        ends = after(ends, step)
    return len(ends) == 1
