"""Point 21: the cheapest slots for travellers, and prices that show that no plan costs less."""

import random
import unittest
from functools import lru_cache

from tests.support import INTEGER_WRONGS, Raising
from tollroads.errors import BadCapacity, BadCost, BadSlots
from tollroads.slots import shows_prices, slot_plan, slot_prices

SLOTS = range(31)
KNOWN = (((5, 7), 1, 1, 1), ((5, 5), 1, 1, 1), ((0,), 1, 1, 1), ((20,), 4, 100, 100), ((0,) * 8, 1, 1, 100),
         ((20,) * 8, 1, 100, 1), ((20,) * 8, 1, 1, 100), ((0,) * 8, 4, 7, 7), ((3,) * 8, 2, 5, 2), ((7,) * 5, 4, 3, 9),
         ((0, 0, 20, 20, 0, 20, 0, 20), 1, 3, 2), ((10, 11, 10, 11, 10, 11, 10, 11), 3, 1, 2),
         ((9, 2, 9, 2, 9, 2, 9), 1, 2, 2), (tuple(range(0, 16, 2)), 1, 4, 4), ((1, 0, 1, 0), 1, 100, 1))


def sample_cases(seed, many):
    chance = random.Random(seed)
    found = list(KNOWN)
    while len(found) < many:
        spread = chance.choice((0, 1, 3, 20))
        low = chance.randint(0, 20 - spread)
        wishes = tuple(chance.randint(low, low + spread) for _ in range(chance.randint(1, 8)))
        early = chance.randint(1, chance.choice((2, 100)))
        found.append((wishes, chance.randint(1, 4), early, chance.choice((early, chance.randint(1, 100)))))
    return found


def cost_of(wish, slot, early, late):
    return max(wish - slot, 0) * early + max(slot - wish, 0) * late


@lru_cache(maxsize=None)
def least_of(wishes, capacity, early, late):
    """The least sum of costs: whoever of the travellers may share a slot, slot by slot."""
    everybody = 2 ** len(wishes)
    groups = [group for group in range(everybody) if bin(group).count("1") <= capacity]
    known = {0: 0}
    for slot in SLOTS:
        costs = {group: sum(cost_of(wish, slot, early, late) for at, wish in enumerate(wishes) if group >> at & 1)
                 for group in groups}
        after = {}
        for placed, cost in known.items():
            for group in groups:
                if group & placed == 0:
                    whole = cost + costs[group]
                    if whole < after.get(group | placed, whole + 1):
                        after[group | placed] = whole
        known = after
    return known[everybody - 1]


def worth_of(case, prices):
    wishes, capacity, early, late = case
    paid = sum(min(cost_of(wish, slot, early, late) + prices[slot] for slot in SLOTS) for wish in wishes)
    return paid - capacity * sum(prices)


def are_prices(case, value):
    return min(value) >= 0 and worth_of(case, value) == least_of(*case)


class PlanTest(Raising, unittest.TestCase):
    def check(self, case):
        wishes, capacity, early, late = case
        value = slot_plan(*case)
        self.assertEqual((type(value), len(value)), (tuple, 2))
        cost, slots = value
        self.assertEqual((type(cost), cost), (int, least_of(*case)))
        self.assertEqual((type(slots), len(slots)), (tuple, len(wishes)))
        self.assertTrue(all(type(slot) is int and 0 <= slot <= 30 for slot in slots))
        self.assertTrue(all(slots.count(slot) <= capacity for slot in slots))
        self.assertEqual(sum(cost_of(wish, slot, early, late) for wish, slot in zip(wishes, slots)), cost)
        prices = slot_prices(*case)
        self.assertEqual((type(prices), len(prices)), (tuple, 31))
        self.assertTrue(all(type(price) is int for price in prices))
        self.assertTrue(are_prices(case, prices), (case, prices))
        self.assertIs(shows_prices(*case, prices), True)

    def test_known_cases(self):
        for case in KNOWN:
            self.check(case)

    def test_many_cases(self):
        for case in sample_cases(91, 60):
            self.check(case)

    def test_worked_out_by_hand(self):
        self.assert_same(slot_plan((5, 7), 1, 1, 1), (0, (5, 7)))
        self.assert_same(slot_plan((7, 5, 7), 2, 9, 9), (0, (7, 5, 7)))
        self.assert_same(slot_plan((5, 5), 1, 3, 2)[0], 2)
        self.assert_same(slot_plan((5, 5, 5), 1, 3, 2)[0], 5)
        # Nobody can be early at 0, and all can be late up to 30.
        self.assert_same(slot_plan((0,) * 8, 1, 1, 2)[0], 56)
        self.assert_same(slot_plan((20,) * 8, 1, 100, 1)[0], 28)
        self.assert_same(slot_plan((20,) * 8, 4, 100, 1)[0], 4)
        # The one who wishes the later slot gives way.
        self.assert_same(slot_plan((1, 1, 2), 1, 100, 1), (2, slot_plan((1, 1, 2), 1, 100, 1)[1]))

    def test_one_traveller(self):
        for wish in range(21):
            self.assert_same(slot_plan((wish,), 1, 1, 1), (0, (wish,)))


class PricesTest(Raising, unittest.TestCase):
    def test_near_values(self):
        right = 0
        for case in sample_cases(92, 25):
            prices = slot_prices(*case)
            for slot in SLOTS:
                for step in (-2, -1, 1, 2, 10 ** 30):
                    near = (*prices[:slot], prices[slot] + step, *prices[slot + 1:])
                    wanted = are_prices(case, near)
                    right += wanted
                    self.assertIs(shows_prices(*case, near), wanted, (case, near))
            for near in (prices[::-1], (*prices[1:], prices[0]), (0,) * 31, (1,) * 31):
                self.assertIs(shows_prices(*case, near), are_prices(case, near))
        self.assertGreater(right, 10)

    def test_other_right_prices(self):
        # Two wish the slot 5, and one of them goes to the slot 6 for 3; the slot 4 would take 4.
        case = ((5, 5), 1, 4, 3)
        for price in range(9):
            for more in range(3):
                value = (0,) * 5 + (price, more) + (0,) * 24
                self.assertIs(shows_prices(*case, value), (price, more) == (3, 0) or (price, more) == (4, 1), value)
        # With a place left in the slot, nobody may pay for it.
        for price in range(4):
            self.assertIs(shows_prices((5, 5), 3, 4, 3, (0,) * 5 + (price,) + (0,) * 25), price == 0)
        for price in range(9):
            self.assertIs(shows_prices((5, 5), 2, 4, 3, (0,) * 5 + (price,) + (0,) * 25), price <= 3)

    def test_values_of_all_kinds(self):
        case, right = ((5, 5), 1, 1, 1), (0,) * 5 + (1,) + (0,) * 25
        self.assertIs(shows_prices(*case, right), True)
        for value in (*INTEGER_WRONGS, [*right], right[:30], (*right, 0), dict(enumerate(right)), (right,),
                      (0,) * 5 + (True,) + (0,) * 25, (0,) * 5 + (1, False) + (0,) * 24, ((0, 1),) * 31,
                      (0,) * 5 + (1, -1) + (0,) * 24, (0,) * 5 + ("1",) + (0,) * 25, (None,) * 31, ([],) * 31,
                      ("x",) * 31, "0" * 31, (False,) * 5 + (True,) + (False,) * 25, (0,) * 31, (10 ** 40,) * 31):
            self.assertIs(shows_prices(*case, value), False, value)


class WrongTest(Raising, unittest.TestCase):
    def refuse(self, error, *arguments):
        self.assert_raises(error, {}, slot_plan, *arguments)
        self.assert_raises(error, {}, slot_prices, *arguments)
        self.assert_raises(error, {}, shows_prices, *arguments, (0,) * 31)
        self.assert_raises(error, {}, shows_prices, *arguments, "x")

    def test_wishes(self):
        for wishes in (*INTEGER_WRONGS, [5, 7], (5,) * 9, (21,), (-1,), (5, 21), (5, True), (False,), ("5",), (5, None),
                       ((5,),), (5, [7]), {5: 7}, "57", (5, {})):
            if wishes != (0,):
                self.refuse(BadSlots, wishes, 1, 1, 1)
                self.refuse(BadSlots, wishes, "x", "x", "x")

    def test_capacities(self):
        for capacity in (*INTEGER_WRONGS, 0, 5, -1, (1,), [1], "2"):
            self.refuse(BadCapacity, (5, 7), capacity, 1, 1)
            self.refuse(BadCapacity, (5, 7), capacity, 0, None)

    def test_costs(self):
        for cost in (*INTEGER_WRONGS, 0, 101, -1, (1, 1), [1], "2"):
            self.refuse(BadCost, (5, 7), 1, cost, 1)
            self.refuse(BadCost, (5, 7), 1, 1, cost)
            self.refuse(BadCost, (5, 7), 1, cost, cost)

    def test_bounds(self):
        self.assert_same(slot_plan((0,) * 8, 4, 100, 100)[0], 400)
        self.assert_same(slot_plan((20, 0), 1, 1, 1), (0, (20, 0)))


if __name__ == "__main__":
    unittest.main()
