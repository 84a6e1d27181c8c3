"""The spread of demands over ways at which no way costs less than a used one.

The cost of a road is its slope times its flow plus its price. Such a spread is one with the least potential, which
is found by exact descent: over the ways in use as far as it goes, then with one cheaper way more.
"""

from tollroads.elimination import null_vectors, one_solution, reduce_rows
from tollroads.ratios import ONE, ZERO, add, divide, less, multiply, on_one_bottom, ratio, subtract


def least_spread(slopes, prices, tables, demands):
    """Return a tuple with, for each demand, the ascending tuple of pairs (way, amount).

    The prices and the demands are ratios, the demands greater than 0.
    """
    whole, bottom = on_one_bottom([*prices, *demands])
    spread = Spread(slopes, whole[:len(prices)], whole[len(prices):], tables)
    extra = spread.cheaper_way(tables)
    while extra is not None:
        spread.take_in(extra)
        spread.settle()
        extra = spread.cheaper_way(tables)
    return spread.parts(bottom)


def overlap(slopes, one, other):
    """Return the sum of the slopes of the roads that two ways share."""
    return sum([slopes[road] for road in one if road in other])


def way_cost(costs, way):
    """Return the sum of integer costs over the roads of a way."""
    return sum([costs[road] for road in way])


def longest_step(amounts, move):
    """Return how many times the amounts can move before one falls below 0, None if they always can."""
    longest = None
    for amount, change in zip(amounts, move):
        if change[0] < 0:
            step = divide(amount, (-change[0], change[1]))
            if longest is None or less(step, longest):
                longest = step
    return longest


class Spread:
    """Demands spread over some ways. Slopes, prices and demands are integers, amounts are ratios."""

    def __init__(self, slopes, prices, demands, tables):
        self.slopes = slopes
        self.prices = prices
        self.demands = demands
        self.used = [(index, self.cheapest(table)) for index, table in enumerate(tables)]
        self.amounts = [(demand, 1) for demand in demands]

    def cheapest(self, table):
        """Return a way that costs least while the roads are empty."""
        lowest = min([way_cost(self.prices, way) for way in table])
        return [way for way in table if way_cost(self.prices, way) == lowest][0]

    def settle(self):
        """Bring the potential to its least value over the ways in use, which drops some of them."""
        settled = False
        while not settled:
            settled = self.descend()

    def descend(self):
        """Lower the potential until an amount becomes 0 or it is least; return whether it is least."""
        move, whole = self.best_move()
        step = longest_step(self.amounts, move)
        least = whole and (step is None or not less(step, ONE))
        if least:
            step = ONE
        moved = [add(amount, multiply(step, change)) for amount, change in zip(self.amounts, move)]
        self.used = [pair for pair, amount in zip(self.used, moved) if amount != ZERO]
        self.amounts = [amount for amount in moved if amount != ZERO]
        return least

    def best_move(self):
        """Return (move, whole): changes of the amounts that lead to the least potential over the ways in use.

        If there is none, because the potential falls without end where amounts below 0 are let be, `whole` is False
        and the move leads downwards at a constant rate.
        """
        width = len(self.used) + len(self.demands)
        rows, columns, last = reduce_rows(self.system(), width)
        for vector in null_vectors(rows, columns, last, width):
            move = vector[:len(self.used)]
            rise = sum([way_cost(self.prices, way) * change for (_, way), change in zip(self.used, move)])
            # The system is symmetric: it has a solution just if all of these rises are 0.
            if rise > 0:
                return [(-change, 1) for change in move], False
            if rise < 0:
                return [(change, 1) for change in move], False
        tops, bottom = one_solution(rows, columns, last, width)
        move = [subtract(ratio(top, bottom), amount) for top, amount in zip(tops, self.amounts)]
        return move, True

    def system(self):
        """Return the equations between the amounts and, for each demand, the negative of the cost of its ways."""
        rows = []
        for index, way in self.used:
            shared = [overlap(self.slopes, way, other) for _, other in self.used]
            own = [int(index == place) for place in range(len(self.demands))]
            rows.append([*shared, *own, -way_cost(self.prices, way)])
        for place, demand in enumerate(self.demands):
            counted = [int(index == place) for index, _ in self.used]
            rows.append([*counted, *[0 for _ in self.demands], demand])
        return rows

    def road_costs(self):
        """Return the costs of all roads, as integers over one bottom."""
        costs = [(price, 1) for price in self.prices]
        for (_, way), amount in zip(self.used, self.amounts):
            for road in way:
                costs[road] = add(costs[road], multiply((self.slopes[road], 1), amount))
        whole, _ = on_one_bottom(costs)
        return whole

    def cheaper_way(self, tables):
        """Return the pair (index of a demand, way) that saves most against the ways in use, None if none saves."""
        costs = self.road_costs()
        paid = {index: way_cost(costs, way) for index, way in self.used}
        found = None
        most = 0
        for index, table in enumerate(tables):
            for way in table:
                saved = paid[index] - way_cost(costs, way)
                if saved > most:
                    most = saved
                    found = (index, way)
        return found

    def take_in(self, pair):
        """Count a way among those in use, still without any amount."""
        self.used.append(pair)
        self.amounts.append(ZERO)

    def parts(self, bottom):
        """Return the ascending pairs (way, amount over the bottom) of all demands."""
        rows = list(zip(self.used, self.amounts))
        found = []
        for place in range(len(self.demands)):
            own = [(way, divide(amount, (bottom, 1))) for (index, way), amount in rows if index == place]
            found.append(tuple(sorted(own)))
        return tuple(found)
