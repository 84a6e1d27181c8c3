"""Point 25: players who share the prices of their roads."""

import itertools
import random
import unittest
from fractions import Fraction
from functools import lru_cache

from tests.gamesupport import BAD_STATES, NINE_WAYS, THOUSAND_STATES, TOO_LARGE, changed, lanes_game, tables_of
from tests.support import INTEGER_WRONGS, Raising, ratio, ways_of
from tollroads.buildings import building_prices, building_states, cheapest_building, shares
from tollroads.errors import BadBuilding, BadState, TooMany

SHED = (3, ((0, 1, 6), (1, 2, 0), (0, 2, 9)), ((0, 2), (0, 2)))
STATE = ((0, 1), (0, 1))
GIVEN = (2, ((0, 1, 0), (0, 1, 5)), ((0, 1), (0, 1)))
OF_ONE = (building_states, building_prices, cheapest_building)
ALL = (*OF_ONE, shares)


def priced(game, price=1):
    """A game as a building, with this price for each road."""
    return (game[0], tuple((*road[:2], price) for road in game[1]), game[2])


def call(function, building, state):
    return shares(building, state) if function is shares else function(building)


def states_of(building):
    return list(itertools.product(*tables_of(building)))


def shares_of(building, state):
    users = [sum(road in way for way in state) for road in range(len(building[1]))]
    return [sum(Fraction(building[1][road][2], users[road]) for road in way) for way in state]


def price_of(building, state):
    return sum(building[1][road][2] for road in {road for way in state for road in way})


def stands(building, state):
    now = shares_of(building, state)
    return all(shares_of(building, changed(state, player, way))[player] >= now[player]
               for player, table in enumerate(tables_of(building)) for way in table)


@lru_cache(maxsize=None)
def sample_buildings(seed, many):
    """So many buildings of one to four players, often with the same ends, and with prices 0 among them."""
    chance = random.Random(seed)
    found = []
    while len(found) < many:
        size, most = chance.choice((2, 3, 3, 4, 4, 5, 6)), chance.choice((2, 12, 60, 1000))
        roads = []
        for _ in range(chance.randint(1, 8)):
            start, end = sorted(chance.sample(range(size), 2), reverse=chance.random() < 0.15)
            roads.append((start, end, chance.choice((0, chance.randint(0, most), chance.randint(0, most)))))
        ends = [(start, goal) for start in range(size) for goal in range(size) if start != goal]
        ends = [pair for pair in ends if 1 <= len(ways_of((size, roads), *pair)) <= 6]
        if ends:
            ends.sort(key=lambda pair: -len(ways_of((size, roads), *pair)))
            players = tuple(chance.choice(ends[:3]) for _ in range(len(found) % 4 + 1))
            building = (size, tuple(roads), players)
            if len(states_of(building)) <= 150:
                found.append(building)
    return found


class BuildingTest(Raising, unittest.TestCase):
    def check(self, building):
        known = states_of(building)
        for state in known[::7]:
            self.assert_same(shares(building, state), tuple(ratio(share) for share in shares_of(building, state)))
        standing = [state for state in known if stands(building, state)]
        self.assertTrue(standing)
        self.assert_same(building_states(building), tuple(sorted(standing)))
        least = min(price_of(building, state) for state in known)
        cheapest = min(state for state in known if price_of(building, state) == least)
        self.assert_same(cheapest_building(building), (least, cheapest))
        if least == 0:
            self.assertIs(building_prices(building), None)
            return None
        prices = [Fraction(price_of(building, state), least) for state in standing]
        self.assert_same(building_prices(building), (ratio(min(prices)), ratio(max(prices))))
        # E. Anshelevich and others: the first one is at most 1 + 1/2 + .. + 1/k for k players.
        self.assertLessEqual(min(prices), sum(Fraction(1, at + 1) for at in range(len(building[2]))))
        return min(prices)

    def test_many_buildings(self):
        found = [self.check(building) for building in sample_buildings(131, 160)]
        self.assertGreater(found.count(None), 5)

    def test_where_the_cheapest_does_not_stand(self):
        # Both together would pay 11 for the last road, but half of it is more than 5: one leaves, and then the other.
        building = (4, ((0, 3, 8), (1, 3, 5), (0, 2, 0), (1, 2, 0), (2, 3, 11)), ((0, 3), (1, 3)))
        self.assert_same(cheapest_building(building), (11, ((2, 4), (3, 4))))
        self.assert_same(building_states(building), (((0,), (1,)),))
        self.assert_same(building_prices(building), ((13, 11), (13, 11)))
        self.assertEqual(self.check(building), Fraction(13, 11))

    def test_worked_out_by_hand(self):
        self.assert_same(shares(SHED, STATE), ((3, 1), (3, 1)))
        self.assert_same(shares(SHED, ((0, 1), (2,))), ((6, 1), (9, 1)))
        self.assert_same(shares(SHED, ((2,), (2,))), ((9, 2), (9, 2)))
        self.assert_same(building_states(SHED), (STATE, ((2,), (2,))))
        self.assert_same(building_prices(SHED), ((1, 1), (3, 2)))
        self.assert_same(cheapest_building(SHED), (6, STATE))

    def test_one_to_four_players_share_alike(self):
        for players in range(1, 5):
            building = (2, ((0, 1, 7),), ((0, 1),) * players)
            self.assert_same(shares(building, ((0,),) * players), (ratio(Fraction(7, players)),) * players)
            self.assert_same(cheapest_building(building), (7, ((0,),) * players))
            self.assert_same(building_prices(building), ((1, 1), (1, 1)))

    def test_a_share_that_stays_equal_is_not_smaller(self):
        # Half of 10 is as much as 5 alone.
        building = (2, ((0, 1, 10), (0, 1, 5)), ((0, 1), (0, 1)))
        self.assert_same(building_states(building), (((0,), (0,)), ((1,), (1,))))
        building = (2, ((0, 1, 10), (0, 1, 6)), ((0, 1),))
        self.assert_same(building_states(building), (((1,),),))

    def test_prices_of_nothing(self):
        self.assertIs(building_prices(GIVEN), None)
        self.assert_same(cheapest_building(GIVEN), (0, ((0,), (0,))))
        self.assert_same(building_states(GIVEN), (((0,), (0,)),))
        self.assert_same(shares(GIVEN, ((1,), (0,))), ((5, 1), (0, 1)))

    def test_a_thousand_states(self):
        building = priced(THOUSAND_STATES, 3)
        self.assertEqual(len(states_of(building)), 1000)
        self.assert_same(cheapest_building(building)[0],
                         min(price_of(building, state) for state in states_of(building)))
        standing = [state for state in states_of(building)[::41] if stands(building, state)]
        got = building_states(building)
        self.assertEqual([state for state in states_of(building)[::41] if state in got], standing)


class WrongTest(Raising, unittest.TestCase):
    def refuse(self, index, building):
        for function in ALL:
            self.assert_raises(BadBuilding, {"index": index}, call, function, building, "x")

    def test_kinds_of_a_building(self):
        size, roads, players = SHED
        for building in (*INTEGER_WRONGS, [*SHED], SHED[:2], (*SHED, 0), (1, roads, players), (7, roads, players),
                         (True, roads, players), ("3", roads, players), (3, [*roads], players), (3, (), players),
                         (3, roads * 3, players), (3, roads, [*players]), (3, roads, ()), (3, roads, players * 3),
                         (3, "x", players), (3, roads, "x"), (3, {0: roads[0]}, players), (3, roads, None),
                         (3, ("x",), ()), (3, roads, ((0, 2),) * 5), (3, roads[:1] * 9, ((0, 1),))):
            self.refuse(None, building)

    def test_roads(self):
        for road in (*INTEGER_WRONGS, 0, [0, 1, 6], (0, 1), (0, 1, 6, 0), (0, 0, 6), (0, 3, 6), (-1, 1, 6),
                     (False, 1, 6), (0, True, 6), (0, 1, -1), (0, 1, 1001), (0, 1, True), (0, 1, None), (0, 1, (6,)),
                     (0, 1, (6, 3)), (0, 1, "6"), (0, 1, [6]), (0, 1, {})):
            for at in range(3):
                self.refuse(at, (3, (*SHED[1][:at], road, *SHED[1][at + 1:]), SHED[2]))
            self.refuse(0, (3, (road, "x"), ("x",)))

    def test_players(self):
        for player in (*INTEGER_WRONGS, 0, [0, 2], (0,), (0, 2, 0), (0, 0), (0, 3), (-1, 2), (False, 2), (0, True),
                       (2, 0), (1, 0), ("0", 2), (0, None)):
            self.refuse(3, (3, SHED[1], (player, "x")))
            self.refuse(4, (3, SHED[1], ((0, 2), player)))

    def test_states(self):
        for state in (*BAD_STATES, (STATE,)):
            self.assert_raises(BadState, {}, shares, SHED, state)
            self.assert_raises(BadState, {}, shares, priced(NINE_WAYS), state)

    def test_bounds(self):
        for function in ALL:
            for most, game, state in TOO_LARGE:
                self.assert_raises(TooMany, {"most": most}, call, function, priced(game), state)
            call(function, priced(lanes_game(8, 3)), ((0,), (7,), (7,)))

    def test_bounds_of_prices(self):
        for price in (0, 1000):
            self.assert_same(shares((2, ((0, 1, price),), ((0, 1),)), ((0,),)), ((price, 1),))


if __name__ == "__main__":
    unittest.main()
