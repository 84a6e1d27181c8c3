"""An own solver of linear programs with fractions, to check the program's answers against."""

from fractions import Fraction
from functools import lru_cache

from tests.support import flows_of, number, times_of, ways_of


def greatest(factors, bounds, gains):
    """The greatest sum of gains of amounts from 0 on with factors times amounts at most the bounds (from 0 on).

    None if there is none. Simplex method, each time with the first column and, of equal ones, the first variable.
    """
    rows = [[Fraction(entry) for entry in row] + [Fraction(int(k == at)) for k in range(len(bounds))] + [Fraction(b)]
            for at, (row, b) in enumerate(zip(factors, bounds))]
    goal = [Fraction(-gain) for gain in gains] + [Fraction(0)] * (len(bounds) + 1)
    basis = [len(gains) + at for at in range(len(bounds))]
    while any(entry < 0 for entry in goal[:-1]):
        column = next(at for at, entry in enumerate(goal) if entry < 0)
        steps = [(row[-1] / row[column], basis[at], at) for at, row in enumerate(rows) if row[column] > 0]
        if not steps:
            return None
        _, _, top = min(steps)
        rows[top] = [entry / rows[top][column] for entry in rows[top]]
        for at, row in enumerate(rows):
            if at != top and row[column]:
                rows[at] = [old - row[column] * new for old, new in zip(row, rows[top])]
        goal = [old - goal[column] * new for old, new in zip(goal, rows[top])]
        basis[top] = column
    return goal[-1]


def most_routed(net, trips, limits):
    """The most that can be routed, of each trip at most its demand, within limits (fractions, or None)."""
    columns = [(place, way) for place, trip in enumerate(trips) for way in ways_of(net, trip[0], trip[1])]
    factors = [[int(road in way) for _, way in columns] for road, limit in enumerate(limits) if limit is not None]
    factors += [[int(place == at) for place, _ in columns] for at in range(len(trips))]
    bounds = [number(limit) for limit in limits if limit is not None] + [number(trip[2]) for trip in trips]
    return greatest(factors, bounds, [1] * len(columns))


@lru_cache(maxsize=None)
def most_takings(net, trips, routing, roads):
    """The takings of the tolls on some roads that take least; None if none on these roads suffice.

    Reckoned by the dual program: amounts that are added to the ways, which may be negative on used ways, with the sum
    0 for each trip and at most the flow added to each of the roads; the greatest saving.
    """
    flows, times = flows_of(net, routing), times_of(net, routing)
    columns = []
    for place, (trip, part) in enumerate(zip(trips, routing)):
        used = [way for way, _ in part]
        for way in ways_of(net, trip[0], trip[1]):
            columns.append((place, way, 1))
            if way in used:
                columns.append((place, way, -1))
    factors = [[sign * int(road in way) for _, way, sign in columns] for road in roads]
    bounds = [flows[road] for road in roads]
    for at in range(len(trips)):
        for side in (1, -1):
            factors.append([side * sign * int(place == at) for place, _, sign in columns])
            bounds.append(Fraction(0))
    return greatest(factors, bounds, [-sign * sum(times[road] for road in way) for _, way, sign in columns])
