"""Point 27: a town, whose trips and tolls change one by one, and back again."""

import random
import unittest

from tests.support import BRAESS, FLAT, INTEGER_WRONGS, Raising, SHARED, SMALL, TWENTY, TWENTY_ONE, zeros
from tollroads.errors import (BadIndex, BadName, BadNet, BadToll, BadTrips, NoName, NothingToUndo, RoadError, Taken,
                              TooMany)
from tollroads.rests import rest_costs, takings
from tollroads.town import Town

TRIP, OTHER, THIRD, FOURTH = (0, 4, (3, 1)), (1, 3, (7, 2)), (2, 4, (5, 3)), (0, 3, (1, 2))
NAMES = ("a", "b", "z", "abcdefgh", "zzzzzzzz", "ab", "ba", "town")
WRONG_NAMES = (*INTEGER_WRONGS[2:], "", "abcdefghi", "A", "aB", "a b", " a", "a ", "a1", "1", "a-b", "a_b", "\u00e4",
               "\u00df", "a\n", "\n", ("a",), ["a"], {"a": 1}, 1, 0)
WRONG_TRIPS = (*INTEGER_WRONGS, [*TRIP], TRIP[:2], (*TRIP, 0), (TRIP,), (0, 0, (1, 1)), (0, 5, (1, 1)), (-1, 4, (1, 1)),
               (4, 0, (1, 1)), (1, 0, (1, 1)), (False, 4, (1, 1)), (0, True, (1, 1)), ("0", 4, (1, 1)), (0, 4, 1),
               (0, 4, (0, 1)), (0, 4, (-1, 1)), (0, 4, (2, 2)), (0, 4, (1001, 1)), (0, 4, (1, 101)), (0, 4, [1, 1]),
               (0, 4, (True, 1)), (0, 4, None), (0, [4], (1, 1)), ({}, 4, (1, 1)))
WRONG_TOLLS = (*INTEGER_WRONGS, 0, 1, (1,), (1, 2, 3), [1, 2], (2, 2), (0, 2), (-1, 2), (1, 0), (1, -1), (True, 1),
               (1, True), (False, 1), ("1", 1), (None, 1), (10 ** 6 + 1, 1), (1, 10 ** 4 + 1), ((1, 1), 1))
ACCEPTED_TOLLS = ((0, 1), (1, 2), (10 ** 6, 1), (1, 10 ** 4), (10 ** 6, 9999), (7, 3))


def seen(town):
    """All that a town tells."""
    names = town.names()
    return (names, tuple(town.get(name) for name in names), town.costs(), town.income())


class Model:
    """An own town that keeps all that it has been, one state behind another."""

    def __init__(self, net):
        self.net = net
        self.states = [({}, list(zeros(net)))]

    def change(self, name, trip):
        trips, tolls = self.states[-1]
        trips = {other: known for other, known in trips.items() if other != name}
        if trip is not None:
            trips[name] = trip
        self.states.append((trips, tolls))

    def set_toll(self, index, size):
        trips, tolls = self.states[-1]
        self.states.append((trips, [*tolls[:index], size, *tolls[index + 1:]]))

    def seen(self):
        trips, tolls = self.states[-1]
        names = tuple(sorted(trips))
        known = tuple(trips[name] for name in names)
        if not names:
            return ((), (), (), (0, 1))
        tolls = tuple(tolls)
        return (names, known, rest_costs(self.net, known, tolls), takings(self.net, known, tolls))


class TownTest(Raising, unittest.TestCase):
    def test_an_empty_town(self):
        town = Town(SHARED)
        self.assert_same(seen(town), ((), (), (), (0, 1)))
        self.assert_same(town.toll(0, (1, 2)), (0, 1))
        self.assert_same(seen(town), ((), (), (), (0, 1)))

    def test_worked_out_by_hand(self):
        town = Town((2, ((0, 1, 1, 2),)))
        self.assertIs(town.put("a", (0, 1, (3, 1))), None)
        self.assert_same(town.costs(), ((5, 1),))
        self.assert_same(town.income(), (0, 1))
        self.assert_same(town.toll(0, (1, 2)), (0, 1))
        self.assert_same((town.costs(), town.income()), (((11, 2),), (3, 2)))
        self.assert_same(town.toll(0, (2, 1)), (1, 2))
        self.assert_same((town.costs(), town.income()), (((7, 1),), (6, 1)))
        self.assertIs(town.put("a", (0, 1, (1, 1))), None)
        self.assert_same((town.costs(), town.income()), (((5, 1),), (2, 1)))
        for wanted in (((7, 1),), ((11, 2),), ((5, 1),), ()):
            self.assertIs(town.undo(), None)
            self.assert_same(town.costs(), wanted)
        self.assert_raises(NothingToUndo, {}, town.undo)

    def test_trips_by_names(self):
        town = Town(SHARED)
        for name, trip in (("town", TRIP), ("b", OTHER), ("abcdefgh", THIRD)):
            self.assertIs(town.put(name, trip), None)
        self.assert_same(town.names(), ("abcdefgh", "b", "town"))
        self.assert_same(town.costs(), rest_costs(SHARED, (THIRD, OTHER, TRIP), zeros(SHARED)))
        self.assert_same([town.get(name) for name in town.names()], [THIRD, OTHER, TRIP])
        self.assert_same(town.drop("b"), OTHER)
        self.assert_same(town.names(), ("abcdefgh", "town"))
        self.assert_raises(NoName, {}, town.get, "b")
        self.assert_raises(NoName, {}, town.drop, "b")

    def test_two_towns_do_not_know_each_other(self):
        one, other = Town(SHARED), Town(SHARED)
        one.put("a", TRIP)
        one.toll(0, (1, 1))
        self.assert_same(seen(other), ((), (), (), (0, 1)))
        self.assert_raises(NothingToUndo, {}, other.undo)
        other.put("b", TRIP)
        self.assert_same(other.costs(), rest_costs(SHARED, (TRIP,), zeros(SHARED)))
        self.assert_same(one.names(), ("a",))

    def test_the_same_name_again(self):
        town = Town(SHARED)
        town.put("a", TRIP)
        town.put("a", TRIP)
        town.put("a", OTHER)
        town.put("b", TRIP)
        town.put("a", THIRD)
        self.assert_same((town.names(), town.get("a"), town.get("b")), (("a", "b"), THIRD, TRIP))
        found = []
        for _ in range(5):
            town.undo()
            found.append(tuple((name, town.get(name)) for name in town.names()))
        self.assert_same(found, [(("a", OTHER), ("b", TRIP)), (("a", OTHER),), (("a", TRIP),), (("a", TRIP),), ()])
        self.assert_raises(NothingToUndo, {}, town.undo)

    def test_a_toll_set_twice(self):
        town = Town(FLAT)
        for size, former in (((1, 2), (0, 1)), ((1, 2), (1, 2)), ((3, 1), (1, 2)), ((0, 1), (3, 1))):
            self.assert_same(town.toll(1, size), former)
        for former in ((3, 1), (1, 2), (1, 2), (0, 1)):
            town.undo()
            self.assert_same(town.toll(1, (9, 1)), former)
            town.undo()
        self.assert_raises(NothingToUndo, {}, town.undo)

    def test_calls_of_all_kinds_in_any_order(self):
        for seed in range(12):
            chance = random.Random(seed)
            net = (SHARED, BRAESS, SMALL)[seed % 3]
            town, model = Town(net), Model(net)
            for _ in range(60):
                self.step(chance, town, model)
                self.assert_same(seen(town), model.seen())
            while len(model.states) > 1:
                self.assertIs(town.undo(), None)
                model.states.pop()
                self.assert_same(seen(town), model.seen())
            self.assert_raises(NothingToUndo, {}, town.undo)
            self.assert_same(seen(town), ((), (), (), (0, 1)))

    def step(self, chance, town, model):
        trips, tolls = model.states[-1]
        name, word = chance.choice(NAMES[:4]), chance.choice(("put", "put", "drop", "toll", "undo", "wrong"))
        if word == "put":
            self.put(town, model, name, chance.choice(self.trips_of(model.net)))
        elif word == "drop" and name in trips:
            self.assert_same(town.drop(name), trips[name])
            model.change(name, None)
        elif word == "toll":
            index, size = chance.randrange(len(tolls)), chance.choice(ACCEPTED_TOLLS)
            self.assert_same(town.toll(index, size), tolls[index])
            model.set_toll(index, size)
        elif word == "undo" and len(model.states) > 1:
            self.assertIs(town.undo(), None)
            model.states.pop()
        elif word == "wrong":
            self.wrong_calls(town)

    def trips_of(self, net):
        if net is SHARED:
            return (TRIP, OTHER, THIRD, FOURTH, (0, 4, (1, 7)))
        return ((0, 2, (3, 1)), (0, 1, (2, 1)), (1, 2, (5, 2)), (0, 2, (1, 9)))

    def put(self, town, model, name, trip):
        others = {other: known for other, known in model.states[-1][0].items() if other != name}
        if trip[:2] in [known[:2] for known in others.values()]:
            self.assert_raises(Taken, {}, town.put, name, trip)
        elif len(others) == 3:
            self.assert_raises(TooMany, {"most": 3}, town.put, name, trip)
        else:
            self.assertIs(town.put(name, trip), None)
            model.change(name, trip)

    def wrong_calls(self, town):
        for call in ((town.put, "A", None), (town.put, "a", None), (town.drop, "nobody"), (town.get, ""),
                     (town.toll, -1, (1, 1)), (town.toll, 0, (-1, 1)), (town.put, "a", (0, 0, (1, 1)))):
            with self.assertRaises(RoadError):
                call[0](*call[1:])


class PutTest(Raising, unittest.TestCase):
    def full(self):
        town = Town(SHARED)
        for name, trip in (("a", TRIP), ("b", OTHER), ("c", THIRD)):
            town.put(name, trip)
        return town

    def refuse(self, error, field, town, *arguments):
        before = seen(town)
        self.assert_raises(error, field, *arguments)
        self.assert_same(seen(town), before)

    def test_a_fourth_trip(self):
        town = self.full()
        self.refuse(TooMany, {"most": 3}, town, town.put, "d", FOURTH)
        self.assertIs(town.put("c", FOURTH), None)
        self.refuse(TooMany, {"most": 3}, town, town.put, "d", THIRD)
        town.drop("a")
        self.assertIs(town.put("d", THIRD), None)
        self.assert_same(town.names(), ("b", "c", "d"))

    def test_a_start_and_goal_that_are_taken(self):
        town = self.full()
        self.refuse(Taken, {}, town, town.put, "d", (0, 4, (1, 9)))
        self.refuse(Taken, {}, town, town.put, "b", TRIP)
        self.refuse(Taken, {}, town, town.put, "b", (0, 4, (1, 9)))
        self.assertIs(town.put("a", (0, 4, (1, 9))), None)
        town.drop("c")
        self.refuse(Taken, {}, town, town.put, "c", (1, 3, (1, 9)))
        self.assertIs(town.put("c", FOURTH), None)

    def test_names(self):
        town = self.full()
        for name in WRONG_NAMES:
            for trip in (TRIP, FOURTH, "x"):
                self.refuse(BadName, {}, town, town.put, name, trip)
            self.refuse(BadName, {}, town, town.drop, name)
            self.refuse(BadName, {}, town, town.get, name)

    def test_names_of_one_and_eight_letters(self):
        for name in NAMES:
            town = Town(SHARED)
            town.put(name, TRIP)
            self.assert_same((town.names(), town.get(name), town.drop(name), town.names()), ((name,), TRIP, TRIP, ()))

    def test_trips(self):
        town = self.full()
        for trip in WRONG_TRIPS:
            for name in ("a", "d"):
                self.refuse(BadTrips, {"index": None}, town, town.put, name, trip)

    def test_unknown_names(self):
        town = self.full()
        for name in ("d", "aa", "abcdefgh"):
            self.refuse(NoName, {}, town, town.drop, name)
            self.refuse(NoName, {}, town, town.get, name)

    def test_errors_are_not_taken_back(self):
        town = self.full()
        for call in ((town.put, "d", FOURTH), (town.put, "b", TRIP), (town.drop, "d"), (town.toll, 9, (1, 1))):
            with self.assertRaises(RoadError):
                call[0](*call[1:])
        town.undo()
        self.assert_same(town.names(), ("a", "b"))


class TollTest(Raising, unittest.TestCase):
    def test_indexes(self):
        town = Town(SMALL)
        for index in (*INTEGER_WRONGS, 3, -3, (0,), "2"):
            self.assert_raises(BadIndex, {}, town.toll, index, (1, 1))
            self.assert_raises(BadIndex, {}, town.toll, index, "x")

    def test_sizes(self):
        town = Town(SMALL)
        for size in WRONG_TOLLS:
            for index in range(3):
                self.assert_raises(BadToll, {}, town.toll, index, size)
        self.assert_raises(NothingToUndo, {}, town.undo)

    def test_bounds_of_tolls(self):
        for size in ACCEPTED_TOLLS:
            town = Town(SMALL)
            self.assert_same((town.toll(2, size), town.toll(2, (1, 1))), ((0, 1), size))


class NetTest(Raising, unittest.TestCase):
    def test_nets(self):
        for net in (*INTEGER_WRONGS, [*SMALL], SMALL[:1], (1, SMALL[1]), (3, ()), (3, [*SMALL[1]]), (3, SMALL[1] * 4)):
            self.assert_raises(BadNet, {"index": None}, Town, net)
        for index in range(3):
            roads = (*SMALL[1][:index], (0, 1, 1, -1), *SMALL[1][index + 1:])
            self.assert_raises(BadNet, {"index": index}, Town, (3, roads))

    def test_twenty_ways_and_one_more(self):
        town = Town(TWENTY)
        town.put("a", (0, 2, (1, 1)))
        self.assert_same(town.costs(), rest_costs(TWENTY, ((0, 2, (1, 1)),), zeros(TWENTY)))
        town = Town(TWENTY_ONE)
        town.put("a", (0, 2, (1, 1)))
        self.assert_raises(TooMany, {"most": 20}, town.costs)
        self.assert_raises(TooMany, {"most": 20}, town.income)
        town.undo()
        self.assert_same(town.costs(), ())

    def test_arguments_are_not_modified(self):
        net, trip = (2, ((0, 1, 1, 2),)), (0, 1, (3, 1))
        town = Town(net)
        town.put("a", trip)
        town.toll(0, (1, 2))
        town.costs()
        self.assert_same((net, trip), ((2, ((0, 1, 1, 2),)), (0, 1, (3, 1))))
        self.assert_same(town.get("a"), trip)


if __name__ == "__main__":
    unittest.main()
