"""Point 12: tolls for a told routing, the papers that show what they must take, and the fewest roads with tolls."""

import itertools
import random
import unittest
from fractions import Fraction

from tests.linear import most_takings
from tests.support import (BRAESS, CROSSED, FLAT, FREE, INTEGER_WRONGS, PIGOU, Raising, SHARED, SHARED_TRIPS, SMALL,
                           TWENTY, TWENTY_ONE, costs_with, flows_of, is_ratio, number, ratio, reduced, samples,
                           times_of, uses_least, ways_of, zeros)
from tollroads.bests import best
from tollroads.errors import BadNet, BadRouting, BadTrips, TooMany
from tollroads.rests import rest
from tollroads.tollsets import fewest_tolls, least_tolls, shows_toll_paper, shows_tolls, toll_paper

TRIPS, ROUTING = ((0, 2, (3, 2)),), ((((0, 2), (1, 1)), ((1,), (1, 2))),)
# Two ways that cross each other: their travellers could change places and save both middle roads.
DETOURS = (4, ((0, 1, 0, 1), (0, 2, 0, 1), (1, 2, 0, 3), (2, 1, 0, 2), (1, 3, 0, 1), (2, 3, 0, 1)))
DETOUR_TRIPS = ((0, 3, (2, 1)),)
DETOUR_ROUTING = ((((0, 2, 5), (1, 1)), ((1, 3, 4), (1, 1))),)
PLAIN = (least_tolls, toll_paper, fewest_tolls)
SHOWING = (shows_tolls, shows_toll_paper)


def call(function, *arguments):
    return function(*arguments, None) if function in SHOWING else function(*arguments)


def takings_of(net, routing, tolls):
    return sum(flow * number(toll) for flow, toll in zip(flows_of(net, routing), tolls))


def are_tolls(net, trips, routing, tolls):
    """Whether a value is tolls with which the routing is at rest."""
    if not (isinstance(tolls, tuple) and len(tolls) == len(net[1])):
        return False
    if not all(is_ratio(toll) and toll[0] >= 0 for toll in tolls):
        return False
    return uses_least(net, trips, routing, costs_with(net, routing, tolls))


def is_pair(net, trips, routing, value):
    """Whether a value is an answer of `least_tolls`."""
    least = most_takings(net, trips, routing, tuple(range(len(net[1]))))
    if value is None or least is None:
        return value is None and least is None
    if not (isinstance(value, tuple) and len(value) == 2 and is_ratio(value[0])):
        return False
    return number(value[0]) == least and are_tolls(net, trips, routing, value[1]) and (
        takings_of(net, routing, value[1]) == least)


def are_changes(net, trips, routing, changes):
    """Whether a value has the form of changes and the sum 0 for each trip."""
    if not isinstance(changes, tuple) or any(not isinstance(row, tuple) or len(row) != 3 for row in changes):
        return False
    for trip, way, size in changes:
        if type(trip) is not int or not 0 <= trip < len(trips) or not is_ratio(size) or size[0] == 0:
            return False
        if not isinstance(way, tuple) or any(type(road) is not int for road in way):
            return False
        if way not in ways_of(net, *trips[trip][:2]):
            return False
        if size[0] < 0 and way not in [used for used, _ in routing[trip]]:
            return False
    places = [row[:2] for row in changes]
    if places != sorted(set(places)):
        return False
    return all(sum(number(size) for trip, _, size in changes if trip == at) == 0 for at in range(len(trips)))


def is_paper(net, trips, routing, value):
    """Whether a value is an answer of `toll_paper`."""
    if not (isinstance(value, tuple) and len(value) == 2 and type(value[0]) is bool):
        return False
    found, changes = value
    if not are_changes(net, trips, routing, changes):
        return False
    added = [sum(number(size) for _, way, size in changes if road in way) for road in range(len(net[1]))]
    spent = sum(more * time for more, time in zip(added, times_of(net, routing)))
    if not found:
        return spent < 0 and all(more <= 0 for more in added)
    least = most_takings(net, trips, routing, tuple(range(len(net[1]))))
    if least is None or any(more > flow for more, flow in zip(added, flows_of(net, routing))):
        return False
    return spent == -least


def fewest_by_trying(net, trips, routing):
    """The fewest roads whose tolls suffice, the smallest such tuple, None if there are none."""
    if most_takings(net, trips, routing, tuple(range(len(net[1])))) is None:
        return None
    for many in range(len(net[1]) + 1):
        for roads in itertools.combinations(range(len(net[1])), many):
            if most_takings(net, trips, routing, roads) is not None:
                return roads


def some_routing(chance, net, trips):
    """A routing that uses some of the ways of each trip."""
    parts = []
    for start, goal, demand in trips:
        known = ways_of(net, start, goal)
        used = sorted(chance.sample(known, chance.randint(1, len(known))))
        shares = [chance.randint(1, 4) for _ in used]
        parts.append(tuple((way, ratio(number(demand) * share / sum(shares))) for way, share in zip(used, shares)))
    return tuple(parts)


def back_and_forth(chance):
    """A net like DETOURS with other numbers, and a routing of one or two trips over it."""
    slope = chance.choice((0, 1, 3))
    roads = [(*road[:2], chance.randint(0, slope), chance.randint(0, 3)) for road in DETOURS[1]]
    roads += [(*chance.sample(range(4), 2), 0, chance.randint(0, 9)) for _ in range(chance.randint(0, 2))]
    net = (4, tuple(roads))
    trips = tuple((*ends, reduced(chance.randint(1, 9), chance.randint(1, 3)))
                  for ends in ((0, 3), (1, 3), (0, 2))[:chance.randint(1, 3)])
    return net, trips, some_routing(chance, net, trips)


def cases(seed, many):
    """So many triples (net, trips, routing): rests with tolls, best routings and others."""
    chance = random.Random(seed)
    found = []
    for net, trips, tolls in samples(seed, many):
        found.append((net, trips, (rest(net, trips, tolls), best(net, trips), some_routing(chance, net, trips),
                                   some_routing(chance, net, trips))[len(found) % 4]))
        found.append(back_and_forth(chance))
    return found


def known_cases():
    yield SMALL, TRIPS, ROUTING
    yield DETOURS, DETOUR_TRIPS, DETOUR_ROUTING
    yield BRAESS, ((0, 3, (1, 1)),), ((((0, 2), (1, 2)), ((1, 3), (1, 2))),)
    yield BRAESS, ((0, 3, (1, 1)),), ((((0, 4, 3), (1, 1)),),)
    yield BRAESS, ((0, 3, (1, 1)),), ((((0, 2), (1, 3)), ((0, 4, 3), (1, 3)), ((1, 3), (1, 3))),)
    yield PIGOU, ((0, 1, (5, 1)),), ((((0,), (5, 1)),),)
    yield FLAT, ((0, 1, (4, 1)),), ((((2,), (4, 1)),),)
    yield FREE, ((0, 1, (1, 1)),), ((((1,), (1, 1)),),)
    yield CROSSED, ((0, 2, (4, 1)),), ((((0, 2), (1, 1)), ((1, 3), (3, 1))),)
    yield SHARED, SHARED_TRIPS, ((((0, 2, 3), (3, 2)), ((0, 6), (1, 2)), ((4,), (1, 1))),
                                 (((1, 2), (7, 2)),), (((2, 3), (1, 3)), ((6,), (4, 3))))
    yield (2, ((0, 1, 3, 4),)), ((0, 1, (7, 2)),), ((((0,), (7, 2)),),)


class LeastTest(Raising, unittest.TestCase):
    def check(self, net, trips, routing):
        """Check tolls and paper against their definition and each other; return whether there are tolls."""
        value, paper = least_tolls(net, trips, routing), toll_paper(net, trips, routing)
        self.assertTrue(is_pair(net, trips, routing, value), (net, trips, routing, value))
        self.assertTrue(is_paper(net, trips, routing, paper), (net, trips, routing, paper))
        self.assertIs(paper[0], value is not None)
        if value is not None:
            spent = sum(number(size) * sum(times_of(net, routing)[road] for road in way) for _, way, size in paper[1])
            self.assertEqual(-spent, number(value[0]))
        for showing, right in ((shows_tolls, value), (shows_toll_paper, paper)):
            self.assertIs(showing(net, trips, routing, right), True)
        self.assertIs(shows_tolls(net, trips, routing, None), value is None)
        self.assertIs(shows_toll_paper(net, trips, routing, (not paper[0], paper[1])), False)
        return paper[0]

    def test_many_cases(self):
        found = [self.check(*case) for case in cases(51, 150)]
        self.assertTrue(60 < sum(found) < 240, sum(found))

    def test_known_cases(self):
        for case in known_cases():
            self.check(*case)

    def test_worked_out_by_hand(self):
        # All on the slow road: its time is 5, the toll of the other road must be 4, but takes nothing.
        self.assert_same(least_tolls(PIGOU, ((0, 1, (5, 1)),), ((((0,), (5, 1)),),))[0], (0, 1))
        self.assert_same(least_tolls(PIGOU, ((0, 1, (5, 1)),), ((((0,), (1, 2)), ((1,), (9, 2))),)),
                         ((1, 4), ((1, 2), (0, 1))))
        self.assert_same(toll_paper(PIGOU, ((0, 1, (5, 1)),), ((((0,), (1, 2)), ((1,), (9, 2))),)),
                         (True, ((0, (0,), (1, 2)), (0, (1,), (-1, 2)))))
        half = ((((0, 2), (1, 2)), ((1, 3), (1, 2))),)
        self.assert_same(least_tolls(BRAESS, ((0, 3, (1, 1)),), half)[0], (0, 1))
        self.assert_same(least_tolls((2, ((0, 1, 3, 4),)), ((0, 1, (7, 2)),), ((((0,), (7, 2)),),)),
                         ((0, 1), ((0, 1),)))
        self.assert_same(toll_paper((2, ((0, 1, 3, 4),)), ((0, 1, (7, 2)),), ((((0,), (7, 2)),),)), (True, ()))

    def test_rests_need_no_tolls(self):
        for net, trips, _ in samples(52, 60):
            routing = rest(net, trips, zeros(net))
            value = least_tolls(net, trips, routing)
            self.assert_same(value[0], (0, 1))
            self.assertTrue(are_tolls(net, trips, routing, value[1]))
            self.assertIs(shows_tolls(net, trips, routing, ((0, 1), zeros(net))), True)
            self.assertIs(shows_toll_paper(net, trips, routing, (True, ())), True)
            if len(net[1]) <= 8:
                self.assert_same(fewest_tolls(net, trips, routing), ((), zeros(net)))

    def test_best_routings_have_tolls(self):
        for net, trips, _ in samples(53, 60):
            self.assertTrue(self.check(net, trips, best(net, trips)))

    def test_routings_without_tolls(self):
        self.assertFalse(self.check(DETOURS, DETOUR_TRIPS, DETOUR_ROUTING))
        self.assertIs(fewest_tolls(DETOURS, DETOUR_TRIPS, DETOUR_ROUTING), None)
        # Where both middle roads take no time, changing places saves nothing.
        free = (4, tuple((*road[:3], 0 if 2 <= at <= 3 else road[3]) for at, road in enumerate(DETOURS[1])))
        self.assertTrue(self.check(free, DETOUR_TRIPS, DETOUR_ROUTING))
        once = (4, tuple((*road[:3], 0 if at == 2 else road[3]) for at, road in enumerate(DETOURS[1])))
        self.assertFalse(self.check(once, DETOUR_TRIPS, DETOUR_ROUTING))
        # Two trips that meet each other on the way, each on the other's road.
        net = (3, ((0, 1, 0, 1), (0, 2, 0, 1), (1, 2, 0, 1), (2, 1, 0, 1)))
        trips = ((0, 1, (1, 1)), (0, 2, (1, 1)))
        self.assertFalse(self.check(net, trips, ((((1, 3), (1, 1)),), (((0, 2), (1, 1)),))))
        self.assertTrue(self.check(net, trips, ((((1, 3), (1, 1)),), (((1,), (1, 1)),))))

    def test_tolls_beyond_those_of_other_points(self):
        net = (6, (*((at, at + 1, 100, 0) for at in range(5)), (0, 5, 0, 0)))
        trips = ((0, 5, (1000, 1)), (0, 4, (1000, 1)), (1, 5, (1000, 1)))
        line = (0, 1, 2, 3, 4)
        most = Fraction(10 ** 7 - 1, 10007)
        routing = (((line, ratio(most)), ((5,), ratio(1000 - most))), ((line[:4], (1000, 1)),),
                   ((line[1:], (1000, 1)),))
        self.assertTrue(self.check(net, trips, routing))
        value = least_tolls(net, trips, routing)
        self.assertTrue(number(value[1][5]) > 10 ** 6)
        self.assertTrue(value[1][5][1] > 10 ** 4)
        self.assert_same(fewest_tolls(net, trips, routing), ((5,), value[1]))


class ShowsTollsTest(Raising, unittest.TestCase):
    def test_near_values(self):
        for net, trips, routing in [*cases(54, 40), *known_cases()]:
            value = least_tolls(net, trips, routing)
            if value is not None:
                for near in self.near(net, value):
                    self.assertIs(shows_tolls(net, trips, routing, near), is_pair(net, trips, routing, near))

    def near(self, net, value):
        takings, tolls = value
        yield (ratio(number(takings) + 1), tolls)
        for at, toll in enumerate(tolls):
            for more in (Fraction(1, 7), -Fraction(1, 7), -number(toll)):
                moved = (*tolls[:at], ratio(number(toll) + more), *tolls[at + 1:])
                yield (takings, moved)
                for size in (Fraction(-1), Fraction(0), Fraction(1, 2), Fraction(1), Fraction(2)):
                    yield (ratio(number(takings) + size * more), moved)

    def test_other_right_tolls(self):
        # On the faster of two ways of two roads each, the toll may stand on either road, or on both in part.
        net = (4, ((0, 1, 0, 1), (1, 3, 0, 1), (0, 2, 0, 3), (2, 3, 0, 3)))
        trips, routing = ((0, 3, (2, 1)),), ((((0, 1), (1, 1)), ((2, 3), (1, 1))),)
        for top in range(-1, 10):
            value = ((4, 1), (ratio(Fraction(top, 2)), ratio(4 - Fraction(top, 2)), (0, 1), (0, 1)))
            self.assertIs(shows_tolls(net, trips, routing, value), 0 <= top <= 8)
        both = ((4, 1), ((2, 1), (2, 1), (1, 1), (0, 1)))
        self.assertIs(shows_tolls(net, trips, routing, both), False)
        self.assertIs(shows_tolls(net, trips, routing, ((5, 1), both[1])), False)
        self.assertIs(shows_tolls(net, trips, routing, ((6, 1), ((2, 1), (3, 1), (1, 1), (0, 1)))), False)

    def test_tolls_on_unused_roads_take_nothing(self):
        trips, routing = ((0, 1, (5, 1)),), ((((0,), (5, 1)),),)
        for toll in ((4, 1), (5, 1), (10 ** 9, 1), (40001, 10 ** 4), (10 ** 30 + 1, 10 ** 20)):
            self.assertIs(shows_tolls(PIGOU, trips, routing, ((0, 1), ((0, 1), toll))), True)
        for toll in ((39, 10), (0, 1), (-4, 1)):
            self.assertIs(shows_tolls(PIGOU, trips, routing, ((0, 1), ((0, 1), toll))), False)

    def test_values_of_all_kinds(self):
        right = ((1, 2), ((0, 1), (1, 1), (0, 1)))
        self.assertIs(shows_tolls(SMALL, TRIPS, ROUTING, right), True)
        for value in (*INTEGER_WRONGS, [*right], right[:1], (*right, 0), right[::-1], {0: right}, (1, right[1]),
                      ((2, 4), right[1]), ((-1, 2), right[1]), ([1, 2], right[1]), ((True, 2), right[1]),
                      (right[0], [*right[1]]), (right[0], right[1][:2]), (right[0], (*right[1], (0, 1))),
                      (right[0], ((0, 1), (True, 1), (0, 1))), (right[0], ((0, 1), (1, True), (0, 1))),
                      (right[0], ((0, 1), (2, 2), (0, 1))), (right[0], ((False, 1), (1, 1), (0, 1))),
                      (right[0], ((0, 1), [1, 1], (0, 1))), (right[0], ((0, 1), 1, (0, 1))), (right[0], None),
                      (None, right[1]), (None, None)):
            self.assertIs(shows_tolls(SMALL, TRIPS, ROUTING, value), False, value)
            self.assertIs(shows_tolls(DETOURS, DETOUR_TRIPS, DETOUR_ROUTING, value), value is None, value)


class ShowsPaperTest(Raising, unittest.TestCase):
    def test_near_values(self):
        for net, trips, routing in [*cases(55, 40), *known_cases()]:
            paper = toll_paper(net, trips, routing)
            for near in self.near(net, trips, paper):
                wanted = is_paper(net, trips, routing, near)
                self.assertIs(shows_toll_paper(net, trips, routing, near), wanted, (net, trips, routing, near))

    def near(self, net, trips, paper):
        found, changes = paper
        for factor in (Fraction(1, 2), Fraction(2), Fraction(-1)):
            yield (found, tuple((trip, way, ratio(number(size) * factor)) for trip, way, size in changes))
        for at, (trip, way, size) in enumerate(changes):
            yield (found, changes[:at] + changes[at + 1:])
            yield (found, (*changes[:at], (trip, way, ratio(number(size) * 2)), *changes[at + 1:]))
        for trip in range(len(trips)):
            known = ways_of(net, *trips[trip][:2])
            for one, other in itertools.permutations(known[:4], 2):
                yield (found, self.moved(changes, trip, one, other))

    def moved(self, changes, trip, one, other):
        """The changes with a quarter more added to one way and less to another way."""
        sizes = {row[:2]: number(row[2]) for row in changes}
        sizes[(trip, one)] = sizes.get((trip, one), 0) - Fraction(1, 4)
        sizes[(trip, other)] = sizes.get((trip, other), 0) + Fraction(1, 4)
        return tuple((*place, ratio(sizes[place])) for place in sorted(sizes) if sizes[place])

    def test_other_right_papers(self):
        trips, routing = ((0, 2, (2, 1)),), ((((0, 2), (1, 1)), ((1, 3), (1, 1))),)
        for top in range(-20, 21):
            # What the used ways lose, the other two get, and the other way round only from 0 on.
            size = ratio(Fraction(top, 20))
            less = ratio(-Fraction(top, 20))
            changes = ((0, (0, 2), less), (0, (0, 3), size), (0, (1, 2), size), (0, (1, 3), less)) if top else ()
            self.assertIs(shows_toll_paper(CROSSED, trips, routing, (True, changes)), top >= 0)
            self.assertIs(shows_toll_paper(CROSSED, trips, routing, (False, changes)), False)

    def test_papers_of_any_size_where_there_are_no_tolls(self):
        known = (((0, 2, 5), -1), ((0, 4), 1), ((1, 3, 4), -1), ((1, 5), 1))
        for top in (1, 2, 1000, 10 ** 20):
            changes = tuple((0, way, (sign * top, 3)) for way, sign in known)
            self.assertIs(shows_toll_paper(DETOURS, DETOUR_TRIPS, DETOUR_ROUTING, (False, changes)), True)
            self.assertIs(shows_toll_paper(DETOURS, DETOUR_TRIPS, DETOUR_ROUTING, (True, changes)), False)
            wrong = tuple((0, way, (-sign * top, 3)) for way, sign in known)
            self.assertIs(shows_toll_paper(DETOURS, DETOUR_TRIPS, DETOUR_ROUTING, (False, wrong)), False)
        self.assertIs(shows_toll_paper(DETOURS, DETOUR_TRIPS, DETOUR_ROUTING, (False, ())), False)
        self.assertIs(shows_toll_paper(DETOURS, DETOUR_TRIPS, DETOUR_ROUTING, (True, ())), False)

    def test_values_of_all_kinds(self):
        right = (True, ((0, (0, 2), (-1, 2)), (0, (1,), (1, 2))))
        self.assertIs(shows_toll_paper(SMALL, TRIPS, ROUTING, right), True)
        one, other = right[1]
        for value in (*INTEGER_WRONGS, None, [*right], right[:1], (*right, 0), right[::-1], (1, right[1]),
                      (None, right[1]), ("True", right[1]), (False, right[1]), (True, [*right[1]]), (True, (one,)),
                      (True, (other, one)), (True, (one, one, other)), (True, (one, other, other)),
                      (True, ((False, *one[1:]), other)), (True, (one, (0, [1], (1, 2)))),
                      (True, (one, (0, (True,), (1, 2)))), (True, (one, (0, (1,), [1, 2]))),
                      (True, (one, (0, (1,), (2, 4)))), (True, (one, (0, (1,), 1))), (True, (one, (1, (1,), (1, 2)))),
                      (True, (one, (-1, (1,), (1, 2)))), (True, (one, (0, (2,), (1, 2)))), (True, (one, (0, (1,)))),
                      (True, (one, other, (0, (1,), (0, 1)))), (True, (one, [*other])), (True, (one, None)),
                      (True, (one, ("0", (1,), (1, 2)))), (True, None), (True, ()), (True, ""),
                      (True, ((-1, *one[1:]), (-1, *other[1:]))), (True, ((0, (0, 2), (-1, 4)),) * 2 + (other,)),
                      (True, ((0, (0, 2), (-1, 3)), (0, (0, 2), (-1, 6)), other)),
                      (True, ((0, (0, 2), (-1, 6)), (0, (0, 2), (-1, 3)), other))):
            self.assertIs(shows_toll_paper(SMALL, TRIPS, ROUTING, value), False, value)

    def test_no_change_is_nothing(self):
        trips, routing = ((0, 1, (5, 1)),), ((((0,), (5, 1)),),)
        self.assertIs(shows_toll_paper(PIGOU, trips, routing, (True, ())), True)
        for changes in (((0, (0,), (0, 1)),), ((0, (1,), (0, 1)),), ((0, (0,), (0, 1)), (0, (1,), (0, 1)))):
            self.assertIs(shows_toll_paper(PIGOU, trips, routing, (True, changes)), False)


class FewestTest(Raising, unittest.TestCase):
    def test_by_trying(self):
        tried = 0
        for net, trips, routing in [*cases(56, 50), *known_cases()]:
            if len(net[1]) <= 8:
                value, roads = fewest_tolls(net, trips, routing), fewest_by_trying(net, trips, routing)
                if roads is None:
                    self.assertIs(value, None)
                else:
                    tried += len(roads) > 1
                    self.assertEqual((type(value), len(value)), (tuple, 2))
                    self.assert_same(value[0], roads)
                    self.assertTrue(are_tolls(net, trips, routing, value[1]))
                    self.assertTrue(all(toll == (0, 1) or road in roads for road, toll in enumerate(value[1])))
        self.assertGreater(tried, 20)

    def test_the_fewest_are_told_without_regard_to_takings(self):
        # The roads 0 and 1 suffice too, and come first, but tolls on them take 8.
        net = (3, ((0, 1, 0, 1), (0, 1, 0, 2), (1, 2, 0, 0), (0, 2, 0, 4)))
        trips = ((0, 2, (3, 1)), (0, 1, (1, 1)))
        routing = ((((0, 2), (1, 1)), ((1, 2), (1, 1)), ((3,), (1, 1))), (((0,), (1, 1)),))
        self.assert_same(least_tolls(net, trips, routing), ((6, 1), ((1, 1), (0, 1), (2, 1), (0, 1))))
        self.assert_same(fewest_tolls(net, trips, routing), ((0, 1), ((3, 1), (2, 1), (0, 1), (0, 1))))

    def test_the_smallest_tuple(self):
        net = (4, ((0, 2, 0, 3), (2, 3, 0, 3), (1, 3, 0, 1), (0, 1, 0, 1)))
        trips, routing = ((0, 3, (2, 1)),), ((((0, 1), (1, 1)), ((3, 2), (1, 1))),)
        self.assert_same(fewest_tolls(net, trips, routing), ((2,), ((0, 1), (0, 1), (4, 1), (0, 1))))

    def test_eight_roads_and_one_more(self):
        lanes = (2, tuple((0, 1, 0, base) for base in range(8)))
        trips = ((0, 1, (8, 1)),)
        routing = (tuple(((road,), (1, 1)) for road in range(8)),)
        tolls = tuple((7 - base, 1) for base in range(8))
        self.assert_same(fewest_tolls(lanes, trips, routing), ((0, 1, 2, 3, 4, 5, 6), tolls))
        self.assert_same(least_tolls(lanes, trips, routing), ((28, 1), tolls))
        nine = (3, (*lanes[1], (1, 2, 0, 0)))
        self.assert_raises(TooMany, {"most": 8}, fewest_tolls, nine, trips, routing)
        self.assert_same(least_tolls(nine, trips, routing), ((28, 1), (*tolls, (0, 1))))
        self.assert_raises(BadRouting, {}, fewest_tolls, nine, trips, routing[0])
        # Also where there are no tolls.
        detours = (4, (*DETOURS[1], (3, 0, 0, 0), (3, 1, 0, 0), (3, 2, 0, 0)))
        self.assertIs(least_tolls(detours, DETOUR_TRIPS, DETOUR_ROUTING), None)
        self.assert_raises(TooMany, {"most": 8}, fewest_tolls, detours, DETOUR_TRIPS, DETOUR_ROUTING)


class WrongTest(Raising, unittest.TestCase):
    def test_twenty_ways_and_one_more(self):
        for net, bound in ((TWENTY, None), (TWENTY_ONE, 20)):
            trips = ((0, 2, (1, 1)),)
            known = ways_of(net, 0, 2)
            routing = (tuple((way, (1, len(known))) for way in known),)
            for function in (*PLAIN, *SHOWING):
                if bound is not None:
                    # The net has more than eight roads too.
                    self.assert_raises(TooMany, {"most": 20}, call, function, net, trips, routing)
                    self.assert_raises(BadRouting, {}, call, function, net, trips, None)
                    self.assert_raises(BadTrips, {"index": 1}, call, function, net, trips * 2, routing)
                elif function is fewest_tolls:
                    self.assert_raises(TooMany, {"most": 8}, function, net, trips, routing)
                elif function in SHOWING:
                    self.assertIs(function(net, trips, routing, ()), False)
                else:
                    self.assertEqual(type(function(net, trips, routing)), tuple)

    def test_routings(self):
        for routing in (*INTEGER_WRONGS, [*ROUTING], ROUTING[0], ROUTING * 2, ((),), (None,), (ROUTING[0][::-1],),
                        ((((0, 2), (3, 2)), ((1,), (0, 1))),), ((((0, 2), (1, 1)), ((1,), (1, 3))),),
                        ((((0, 2), (2, 1)), ((1,), (-1, 2))),), ((((0, 2), (True, 1)), ((1,), (1, 2))),)):
            for function in (*PLAIN, *SHOWING):
                self.assert_raises(BadRouting, {}, call, function, SMALL, TRIPS, routing)

    def test_the_leftmost_error(self):
        for function in (*PLAIN, *SHOWING):
            self.assert_raises(BadNet, {"index": 0}, call, function, (2, ("x",)), "x", "x")
            self.assert_raises(BadNet, {"index": None}, call, function, "x", TRIPS, ROUTING)
            self.assert_raises(BadTrips, {"index": None}, call, function, SMALL, [], "x")
            self.assert_raises(BadTrips, {"index": 0}, call, function, SMALL, ((2, 0, (1, 1)),), ROUTING)


if __name__ == "__main__":
    unittest.main()
