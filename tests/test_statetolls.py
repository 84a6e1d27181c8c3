"""Point 24: tolls with which a told state stands, and the papers that show what the players must pay."""

import itertools
import unittest
from fractions import Fraction
from functools import lru_cache

from tests.gamesupport import (ALONE, BAD_GAMES, BAD_STATES, CROWD, FREE, MIXED, NINE_WAYS, ONE, PAIR, THOUSAND_STATES,
                               TOO_LARGE, better_steps_of, changed, counts_of, plain, sample_games, states_of,
                               tables_of, times_of)
from tests.linear import greatest
from tests.support import INTEGER_WRONGS, Raising, is_ratio, number, ratio
from tollroads.errors import BadGame, BadState, TooMany
from tollroads.statetolls import shows_state_paper, shows_state_tolls, state_paper, state_tolls

ALL = (state_tolls, state_paper, shows_state_tolls, shows_state_paper)
# Two players on ways that cross each other could change places and save both middle roads: no tolls help.
DETOURS = (4, tuple((*ends, (1, 1)) for ends in ((0, 1), (0, 2), (1, 2), (2, 1), (1, 3), (2, 3))), ((0, 3), (0, 3)))
CROSSING = ((0, 2, 5), (1, 3, 4))


def call(function, game, state):
    return function(game, state, 0) if function in (shows_state_tolls, shows_state_paper) else function(game, state)


@lru_cache(maxsize=None)
def moves_of(game, state):
    """The pairs of a move (player, way) and what it makes more."""
    found = []
    for player, table in enumerate(tables_of(game)):
        for way in table:
            if way != state[player]:
                after = times_of(game, plain(game), changed(state, player, way))
                found.append(((player, way), after[player] - times_of(game, plain(game), state)[player]))
    return found


@lru_cache(maxsize=None)
def least_of(game, state):
    """The least sum that is paid, reckoned by the dual program; None if there are no tolls."""
    moves = moves_of(game, state)
    factors = [[int(road in way) - int(road in state[player]) for (player, way), _ in moves]
               for road in range(len(game[1]))]
    return greatest(factors, counts_of(game, plain(game), state), [-more for _, more in moves])


def are_tolls(game, state, tolls):
    """Whether a value is tolls with which nobody has a way that costs less."""
    if not (isinstance(tolls, tuple) and len(tolls) == len(game[1])):
        return False
    if not all(is_ratio(toll) and toll[0] >= 0 for toll in tolls):
        return False
    for (player, way), more in moves_of(game, state):
        rise = sum(number(tolls[road]) for road in way) - sum(number(tolls[road]) for road in state[player])
        if more + rise < 0:
            return False
    return True


def paid_of(game, state, tolls):
    return sum(count * number(toll) for count, toll in zip(counts_of(game, plain(game), state), tolls))


def is_pair(game, state, value):
    least = least_of(game, state)
    if value is None or least is None:
        return value is None and least is None
    return (number(value[0]) == least and are_tolls(game, state, value[1])
            and paid_of(game, state, value[1]) == least)


def is_paper(game, state, value):
    """Whether a pair of True or False and a tuple of triples is a paper."""
    found, changes = value
    known = dict(moves_of(game, state))
    if any(not is_ratio(row[2]) or row[2][0] <= 0 or row[:2] not in known for row in changes):
        return False
    if [row[:2] for row in changes] != sorted({row[:2] for row in changes}):
        return False
    added = [Fraction(0)] * len(game[1])
    for player, way, size in changes:
        for road in way:
            added[road] += number(size)
        for road in state[player]:
            added[road] -= number(size)
    spent = sum(known[row[:2]] * number(row[2]) for row in changes)
    least = least_of(game, state)
    if found is not (least is not None):
        return False
    if not found:
        return spent < 0 and max(added) <= 0
    return spent == -least and all(more <= count for more, count in zip(added, counts_of(game, plain(game), state)))


def cases(seed, many):
    """States of games by chance: those that stand, those that tolls can make stand, and those that none can."""
    found = [(game, state) for game in (PAIR, ONE, ALONE, FREE, MIXED) for state in states_of(game)]
    found += [(DETOURS, state) for state in states_of(DETOURS)]
    found += [(CROWD, state) for state in states_of(CROWD)[::9]]
    for game in sample_games(seed, many):
        found += [(game, state) for state in states_of(game)[::max(1, len(states_of(game)) // 6)]]
    return found


class TollsTest(Raising, unittest.TestCase):
    def check(self, game, state):
        least = least_of(game, state)
        value = state_tolls(game, state)
        if least is None:
            self.assertIs(value, None)
        else:
            self.assertEqual((type(value), len(value), type(value[1])), (tuple, 2, tuple))
            self.assert_same(value[0], ratio(least))
            self.assertTrue(is_pair(game, state, value), (game, state, value))
        self.assertIs(shows_state_tolls(game, state, value), True)
        self.assertIs(shows_state_tolls(game, state, None), least is None)
        paper = state_paper(game, state)
        self.assertEqual((type(paper), len(paper), type(paper[1])), (tuple, 2, tuple))
        self.assertIs(paper[0], least is not None)
        self.assertTrue(all(type(row) is tuple and len(row) == 3 for row in paper[1]))
        self.assertTrue(is_paper(game, state, paper), (game, state, paper))
        self.assertIs(shows_state_paper(game, state, paper), True)
        if not better_steps_of(game, plain(game), state):
            self.assert_same(value[0], (0, 1))
            self.assertIs(shows_state_tolls(game, state, ((0, 1), ((0, 1),) * len(game[1]))), True)
            self.assertIs(shows_state_paper(game, state, (True, ())), True)
            return "stands"
        return "tolls" if value is not None and value[0][0] else "free" if value is not None else "none"

    def test_many_cases(self):
        found = [self.check(game, state) for game, state in cases(121, 80)]
        for word in ("stands", "tolls", "free", "none"):
            self.assertGreater(found.count(word), 5, word)

    def test_worked_out_by_hand(self):
        self.assert_same(state_tolls(ONE, ((1,),)), ((0, 1), ((1, 1), (0, 1))))
        self.assert_same(state_paper(ONE, ((0,),)), (True, ()))
        # Both on the road that takes 5 each: alone on the other way one would take 1. One toll of 4 on its first road,
        # or on its second one, keeps both away, and nobody pays it.
        self.assert_same(state_tolls(PAIR, ((2,), (2,)))[0], (0, 1))
        self.assertIs(shows_state_tolls(PAIR, ((2,), (2,)), ((0, 1), ((0, 1), (4, 1), (0, 1)))), True)
        self.assertIs(shows_state_tolls(PAIR, ((2,), (2,)), ((0, 1), ((0, 1), (39, 10), (0, 1)))), False)
        # One of two players on the dearer road, which leads on to where only the cheaper one has to go.
        game = (3, ((0, 1, (1, 4)), (0, 1, (6, 6)), (1, 2, (0, 0))), ((0, 1), (0, 2)))
        self.assert_same(state_tolls(game, ((0,), (1, 2))), ((2, 1), ((2, 1), (0, 1), (0, 1))))
        self.assert_same(state_paper(game, ((0,), (1, 2))), (True, ((1, (0, 2), (1, 1)),)))

    def test_states_that_no_tolls_make_stand(self):
        self.assertIs(state_tolls(DETOURS, CROSSING), None)
        found, changes = state_paper(DETOURS, CROSSING)
        self.assertIs(found, False)
        for top in (1, 2, 10 ** 20):
            right = ((0, (0, 4), (top, 3)), (1, (1, 5), (top, 3)))
            self.assertIs(shows_state_paper(DETOURS, CROSSING, (False, right)), True)
            self.assertIs(shows_state_paper(DETOURS, CROSSING, (True, right)), False)
            self.assertIs(shows_state_paper(DETOURS, CROSSING, (False, right[:1])), False)
            self.assertIs(shows_state_paper(DETOURS, CROSSING, (False, (right[0], (1, (1, 5), (top + 3, 3))))), False)
        self.assertIs(shows_state_paper(DETOURS, CROSSING, (False, ())), False)
        self.assertIs(shows_state_paper(DETOURS, CROSSING, (True, ())), False)

    def test_players_without_another_way(self):
        self.assert_same(state_tolls(ALONE, ((0,),)), ((0, 1), ((0, 1),)))
        self.assert_same(state_paper(ALONE, ((0,),)), (True, ()))

    def test_states_of_many_ways(self):
        # Rows of roads side by side; tolls must keep players on dear roads of each row.
        for costs in ((0, 5, 9), (7, 7, 1), (2, 990, 900)):
            rows = [(0, cost) for cost in costs] + [(1, cost) for cost in costs[:2]]
            roads = tuple((at, at + 1, (cost, cost + 1, cost + 3)) for at, cost in rows)
            game = (3, roads, ((0, 2), (0, 1), (0, 2)))
            for state in states_of(game)[::5]:
                self.check(game, state)

    def test_a_thousand_states(self):
        for state in states_of(THOUSAND_STATES)[::250]:
            self.check(THOUSAND_STATES, state)


class ShowsTollsTest(Raising, unittest.TestCase):
    def test_near_values(self):
        right = 0
        for game, state in cases(123, 30):
            value = state_tolls(game, state)
            if value is not None:
                for near in self.near(value):
                    wanted = is_pair(game, state, near)
                    right += wanted
                    self.assertIs(shows_state_tolls(game, state, near), wanted, (game, state, near))
        self.assertGreater(right, 50)

    def near(self, value):
        paid, tolls = value
        yield (ratio(number(paid) + Fraction(1, 2)), tolls)
        for at, toll in enumerate(tolls):
            for more in (Fraction(1, 7), Fraction(-1, 7), -number(toll), Fraction(10 ** 9)):
                moved = (*tolls[:at], ratio(number(toll) + more), *tolls[at + 1:])
                for size in (0, 1, 2):
                    yield (ratio(number(paid) + size * more), moved)

    def test_other_right_tolls(self):
        # The two roads of the way that would be faster may bear the toll of 4 in any parts.
        for first, second in itertools.product(range(-1, 7), repeat=2):
            value = ((0, 1), ((first, 1), (second, 1), (0, 1)))
            wanted = min(first, second) >= 0 and first + second >= 4
            self.assertIs(shows_state_tolls(PAIR, ((2,), (2,)), value), wanted)

    def test_tolls_of_any_size(self):
        for toll in ((10 ** 6 + 1, 1), (10 ** 30, 1), (10 ** 30 + 1, 10 ** 20)):
            self.assertIs(shows_state_tolls(ONE, ((1,),), ((0, 1), (toll, (0, 1)))), True)
            self.assertIs(shows_state_tolls(ONE, ((0,),), ((0, 1), ((0, 1), toll))), True)

    def test_values_of_all_kinds(self):
        right = ((0, 1), ((1, 1), (0, 1)))
        self.assertIs(shows_state_tolls(ONE, ((1,),), right), True)
        for value in (*INTEGER_WRONGS, [*right], right[:1], (*right, 0), right[::-1], {0: right}, (0, right[1]),
                      ((0, 2), right[1]), ([0, 1], right[1]), ((False, 1), right[1]), ((0, True), right[1]),
                      (right[0], [*right[1]]), (right[0], right[1][:1]), (right[0], (*right[1], (0, 1))),
                      (right[0], ((True, 1), (0, 1))), (right[0], ((1, True), (0, 1))), (right[0], ((2, 2), (0, 1))),
                      (right[0], ((1, 1), (False, 1))), (right[0], ([1, 1], (0, 1))), (right[0], (1, 0)),
                      (right[0], None), (None, right[1]), (None, None), ((-1, 1), ((0, 1), (-1, 1)))):
            self.assertIs(shows_state_tolls(ONE, ((1,),), value), False, value)
            self.assertIs(shows_state_tolls(DETOURS, CROSSING, value), value is None, value)


class ShowsPaperTest(Raising, unittest.TestCase):
    def test_near_values(self):
        right = 0
        for game, state in cases(124, 30):
            for near in self.near(game, state, state_paper(game, state)):
                wanted = is_paper(game, state, near)
                right += wanted
                self.assertIs(shows_state_paper(game, state, near), wanted, (game, state, near))
        self.assertGreater(right, 50)

    def near(self, game, state, paper):
        found, changes = paper
        yield (not found, changes)
        yield from ((found, ()), (found, changes[1:]), (found, changes[::-1]), (found, changes * 2))
        for factor in (Fraction(1, 2), Fraction(2), Fraction(-1)):
            yield (found, tuple((*row[:2], ratio(number(row[2]) * factor)) for row in changes))
        for at, row in enumerate(changes):
            for step in (Fraction(1, 4), Fraction(-1, 4), -number(row[2])):
                yield (found, (*changes[:at], (*row[:2], ratio(number(row[2]) + step)), *changes[at + 1:]))
        for move, _ in moves_of(game, state)[:6]:
            sizes = {row[:2]: number(row[2]) for row in changes}
            sizes[move] = sizes.get(move, 0) + Fraction(1, 3)
            yield (found, tuple((*key, ratio(sizes[key])) for key in sorted(sizes)))

    def test_other_right_papers(self):
        # A player with three ways that take equally long may leave the own one for them in any parts, as far as there
        # is one on each of them; nobody is on the fourth one.
        game = (2, tuple((0, 1, (4, 4, 4)) for _ in range(4)), ((0, 1),) * 3)
        state = ((0,), (1,), (2,))
        for first, second in itertools.product(range(-1, 5), repeat=2):
            changes = tuple((0, (road,), ratio(Fraction(size, 3))) for road, size in ((1, first), (2, second)) if size)
            wanted = 0 <= first <= 3 and 0 <= second <= 3
            self.assertIs(shows_state_paper(game, state, (True, changes)), wanted, changes)
        self.assertIs(shows_state_paper(game, state, (True, ((0, (3,), (1, 100)),))), False)
        # One who leaves a road makes room for another one there.
        both = ((0, (1,), (1, 1)), (2, (1,), (1, 1)))
        self.assertIs(shows_state_paper(game, state, (True, both)), False)
        self.assertIs(shows_state_paper(game, state, (True, (both[0], (1, (2,), (1, 1)), both[1]))), True)
        for size in ((1, 1), (2, 1), (10 ** 20, 1)):
            self.assertIs(shows_state_paper(game, state, (True, ((0, (1,), size), (1, (0,), size)))), True)

    def test_a_road_may_get_as_many_as_are_on_it(self):
        # Both roads 0 and 1 are used; the second player saves 2 by the road 0, on which there is one player.
        game = (3, ((0, 1, (1, 4)), (0, 1, (6, 6)), (1, 2, (0, 0))), ((0, 1), (0, 2)))
        state = ((0,), (1, 2))
        for size, wanted in (((1, 1), True), ((1, 2), False), ((2, 1), False), ((11, 10), False)):
            self.assertIs(shows_state_paper(game, state, (True, ((1, (0, 2), size),))), wanted)
        # One who leaves makes room for another one; what that saves, the other one loses here.
        self.assertIs(shows_state_paper(game, state, (True, ((0, (1,), (1, 1)), (1, (0, 2), (2, 1))))), False)

    def test_values_of_all_kinds(self):
        game = (3, ((0, 1, (1, 4)), (0, 1, (6, 6)), (1, 2, (0, 0))), ((0, 1), (0, 2)))
        state, right = ((0,), (1, 2)), (True, ((1, (0, 2), (1, 1)),))
        row = right[1][0]
        self.assertIs(shows_state_paper(game, state, right), True)
        for value in (*INTEGER_WRONGS, [*right], right[:1], (*right, 0), right[::-1], (1, right[1]), (None, right[1]),
                      ("True", right[1]), (False, right[1]), (True, [row]), (True, row), (True, ()), (True, None),
                      (True, (row, row)), (True, ([*row],)), (True, (row[:2],)), (True, ((*row, 0),)), (True, (None,)),
                      (True, ((True, *row[1:]),)), (True, ((0, *row[1:]),)), (True, ((-1, *row[1:]),)),
                      (True, ((2, *row[1:]),)), (True, (("1", *row[1:]),)), (True, ((1, [0, 2], (1, 1)),)),
                      (True, ((1, (False, 2), (1, 1)),)), (True, ((1, (1, 2), (1, 1)),)), (True, ((1, (0,), (1, 1)),)),
                      (True, ((1, None, (1, 1)),)), (True, ((1, (0, 2), (2, 2)),)), (True, ((1, (0, 2), (True, 1)),)),
                      (True, ((1, (0, 2), 1),)), (True, ((1, (0, 2), [1, 1]),)), (True, (row, (1, (1, 2), (1, 1)))),
                      (True, ((0, (0,), (1, 1)), row)), (True, ((1, (0, 2), (1, 2)), (1, (0, 2), (1, 2)))),
                      (True, ((1, (0, 2), (1, 3)), (1, (0, 2), (2, 3)))), (True, ((0, (1,), (0, 1)), row)),
                      (True, ((1, (0, 2), (2, 3)), (1, (0, 2), (1, 3)))),
                      (True, {}), ({}, right[1]), ([], []), (True, ({}, []))):
            self.assertIs(shows_state_paper(game, state, value), False, value)


class WrongTest(Raising, unittest.TestCase):
    def test_games(self):
        for function in ALL:
            for index, game in BAD_GAMES:
                self.assert_raises(BadGame, {"index": index}, call, function, game, "x")

    def test_states(self):
        for function in ALL:
            for state in BAD_STATES:
                self.assert_raises(BadState, {}, call, function, PAIR, state)
                self.assert_raises(BadState, {}, call, function, NINE_WAYS, state)

    def test_bounds(self):
        for function in ALL:
            for most, game, state in TOO_LARGE:
                self.assert_raises(TooMany, {"most": most}, call, function, game, state)
            call(function, THOUSAND_STATES, ((7,), (6, 0), (6, 3), (0, 5)))


if __name__ == "__main__":
    unittest.main()
