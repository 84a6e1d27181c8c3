"""Point 23: advice, the best of it, and the papers that show that no advice has a smaller sum."""

import random
import unittest
from fractions import Fraction
from functools import lru_cache

from tests.gamesupport import (ALONE, BAD_GAMES, FREE, MIXED, ONE, PAIR, TOO_LARGE, changed, lanes_game, plain,
                               sample_game, sample_games, standing_of, states_of, tables_of, times_of)
from tests.linear import greatest
from tests.support import INTEGER_WRONGS, Raising, is_ratio, number, ratio
from tollroads.advice import advice_paper, best_advice, shows_advice, shows_advice_paper
from tollroads.errors import BadGame, TooMany

ALL = (best_advice, advice_paper, shows_advice, shows_advice_paper)
# Twenty states: four ways of one player and five of the other one; and one more way.
TWENTY_STATES = (3, tuple((0, 1, (cost, cost + 2)) for cost in (1, 2, 3, 4)) + ((0, 2, (3, 9)), (1, 2, (0, 1))),
                 ((0, 1), (0, 2)))
MORE_THAN_TWENTY = (3, tuple((0, 1, (1, 2)) for _ in range(3)) + tuple((1, 2, (1, 2)) for _ in range(2)) + (
    (0, 2, (1, 1)),), ((0, 1), (0, 2)))


def call(function, game):
    return function(game, None) if function in (shows_advice, shows_advice_paper) else function(game)


def total_of(game, state):
    return sum(times_of(game, plain(game), state))


@lru_cache(maxsize=None)
def exchanges_of(game):
    """The pairs of a triple (player, way, other) and what it makes more in the states in which the way is used."""
    found = []
    for player, table in enumerate(tables_of(game)):
        for way in table:
            for other in table:
                if way != other:
                    more = {}
                    for state in states_of(game):
                        if state[player] == way:
                            after = times_of(game, plain(game), changed(state, player, other))
                            more[state] = after[player] - times_of(game, plain(game), state)[player]
                    found.append(((player, way, other), more))
    return found


@lru_cache(maxsize=None)
def least_of(game):
    """The least sum of all advice, reckoned by the dual program."""
    factors = [[1, *[more.get(state, 0) for _, more in exchanges_of(game)]] for state in states_of(game)]
    bounds = [total_of(game, state) for state in states_of(game)]
    return greatest(factors, bounds, [1, *[0 for _ in exchanges_of(game)]])


def is_advice(game, value):
    """Whether a tuple of pairs of a state and a ratio is advice."""
    states = [state for state, _ in value]
    if states != sorted(set(states)) or any(state not in states_of(game) for state in states):
        return False
    if any(not is_ratio(chance) or chance[0] <= 0 for _, chance in value):
        return False
    if sum(number(chance) for _, chance in value) != 1:
        return False
    return all(sum(number(chance) * more.get(state, 0) for state, chance in value) >= 0
               for _, more in exchanges_of(game))


def sum_of(game, advice):
    return sum(number(chance) * total_of(game, state) for state, chance in advice)


def is_pair(game, value):
    return is_advice(game, value[1]) and number(value[0]) == least_of(game) == sum_of(game, value[1])


def is_paper(game, value):
    """Whether a tuple of quadruples is a paper."""
    known = dict(exchanges_of(game))
    triples = [row[:3] for row in value]
    if triples != sorted(set(triples)) or any(triple not in known for triple in triples):
        return False
    if any(not is_ratio(row[3]) or row[3][0] <= 0 for row in value):
        return False
    for state in states_of(game):
        taken = sum(number(row[3]) * known[row[:3]].get(state, 0) for row in value)
        if total_of(game, state) - taken < least_of(game):
            return False
    return True


@lru_cache(maxsize=None)
def small_games(seed, many):
    """So many games of one to four players with at most 20 states, most of them with several."""
    chance = random.Random(seed)
    found = [PAIR, ONE, ALONE, FREE, MIXED, TWENTY_STATES]
    while len(found) < many:
        players = len(found) % 4 + 1
        game = sample_game(chance, players, players)
        if len(states_of(game)) <= 20 and (len(states_of(game)) > 3 or chance.random() < 0.2):
            found.append(game)
    return found


@lru_cache(maxsize=None)
def mixing_games(seed, many):
    """So many games in which the best advice is better than any state that stands."""
    chance = random.Random(seed)
    found = [MIXED]
    while len(found) < many:
        players = chance.choice((2, 3, 4))
        tables = [tuple(sorted(chance.randint(0, chance.choice((3, 9, 50))) for _ in range(players))) for _ in "12"]
        game = (2, tuple((0, 1, table) for table in tables), ((0, 1),) * players)
        if least_of(game) < min(total_of(game, state) for state in standing_of(game, plain(game))):
            found.append(game)
    return found


class BestTest(Raising, unittest.TestCase):
    def check(self, game):
        value = best_advice(game)
        self.assertEqual((type(value), len(value), type(value[1])), (tuple, 2, tuple))
        self.assertTrue(all(type(pair) is tuple and len(pair) == 2 for pair in value[1]))
        self.assert_same(value[0], ratio(least_of(game)))
        self.assertTrue(is_pair(game, value), (game, value))
        self.assertIs(shows_advice(game, value), True)
        paper = advice_paper(game)
        self.assertIs(type(paper), tuple)
        self.assertTrue(all(type(row) is tuple and len(row) == 4 for row in paper))
        self.assertTrue(is_paper(game, paper), (game, paper))
        self.assertIs(shows_advice_paper(game, paper), True)
        return value

    def test_many_games(self):
        for game in small_games(111, 150):
            self.check(game)

    def test_games_in_which_the_best_advice_mixes(self):
        for game in mixing_games(112, 25):
            self.assertGreater(len(self.check(game)[1]), 1)
            self.assertTrue(advice_paper(game))

    def test_the_total_and_the_paper_agree(self):
        # No state can be below the total with what the paper takes, and the advised ones are just there.
        for game in [*small_games(111, 60), *mixing_games(112, 15)]:
            total, advice = best_advice(game)
            known = dict(exchanges_of(game))
            left = {state: total_of(game, state) - sum(number(row[3]) * known[row[:3]].get(state, 0)
                                                       for row in advice_paper(game)) for state in states_of(game)}
            self.assertEqual(min(left.values()), number(total))
            self.assertEqual({left[state] for state, _ in advice}, {number(total)})

    def test_worked_out_by_hand(self):
        self.assert_same(best_advice(ONE), ((1, 1), ((((0,),), (1, 1)),)))
        self.assert_same(advice_paper(ALONE), ())
        self.assert_same(best_advice(ALONE), ((7, 1), ((((0,),), (1, 1)),)))
        # Each player alone on a road is best and stands.
        self.assert_same(best_advice(lanes_game(2, 2))[0], (1, 1))
        # A single player with two roads alike: any chances are advice.
        game = (2, ((0, 1, (4,)), (0, 1, (4,))), ((0, 1),))
        self.assert_same(best_advice(game)[0], (4, 1))
        self.assertIs(shows_advice(game, ((4, 1), ((((0,),), (1, 3)), (((1,),), (2, 3))))), True)

    def test_advice_that_mixes_worked_out_by_hand(self):
        states = ((0,), (0,), (1,)), ((0,), (1,), (0,)), ((0,), (1,), (1,))
        advice = tuple((state, (1, 3)) for state in states)
        self.assert_same(best_advice(MIXED)[0], (20, 3))
        self.assertIs(shows_advice(MIXED, ((20, 3), advice)), True)
        # The same with the players' places changed, and both together.
        other = tuple(sorted((state[::-1], chance) for state, chance in advice))
        self.assertIs(shows_advice(MIXED, ((20, 3), other)), True)
        both = {}
        for state, chance in (*advice, *other):
            both[state] = both.get(state, 0) + number(chance) / 2
        value = ((20, 3), tuple((state, ratio(both[state])) for state in sorted(both)))
        self.assertIs(shows_advice(MIXED, value), True)
        # More often one alone on the first road: then it would be worth leaving the second one.
        for chance in (Fraction(1, 4), Fraction(5, 12)):
            rest = ratio((1 - chance) / 2)
            near = ((states[0], rest), (states[1], rest), (states[2], ratio(chance)))
            self.assertIs(shows_advice(MIXED, (ratio(7 - chance), near)), False)
        paper = tuple((player, (1,), (0,), (1, 3)) for player in range(3))
        self.assertIs(shows_advice_paper(MIXED, paper), True)
        self.assertIs(shows_advice_paper(MIXED, paper[1:]), False)

    def test_where_everything_is_free(self):
        self.assert_same(best_advice(FREE)[0], (0, 1))
        self.assertIs(shows_advice_paper(FREE, ()), True)

    def test_twenty_states_and_one_more(self):
        self.assertEqual((len(states_of(TWENTY_STATES)), len(states_of(MORE_THAN_TWENTY))), (20, 21))
        self.check(TWENTY_STATES)
        for function in ALL:
            self.assert_raises(TooMany, {"most": 20}, call, function, MORE_THAN_TWENTY)
            call(function, TWENTY_STATES)


class ShowsAdviceTest(Raising, unittest.TestCase):
    def test_near_values(self):
        for game in [*small_games(113, 60), *mixing_games(114, 10)]:
            for near in self.near(game, best_advice(game)):
                self.assertIs(shows_advice(game, near), is_pair(game, near), (game, near))

    def near(self, game, value):
        total, advice = value
        yield (ratio(number(total) + Fraction(1, 9)), advice)
        yield from ((total, advice[1:]), (total, advice[::-1]), (total, advice * 2), (total, ()))
        for state in states_of(game):
            alone = ((state, (1, 1)),)
            yield (total, alone)
            yield (ratio(total_of(game, state)), alone)
            half = {state: Fraction(1, 2)}
            for other, chance in advice:
                half[other] = half.get(other, 0) + number(chance) / 2
            yield (total, tuple((other, ratio(half[other])) for other in sorted(half)))
            yield (ratio((number(total) + total_of(game, state)) / 2),
                   tuple((other, ratio(half[other])) for other in sorted(half)))
        for at, (state, chance) in enumerate(advice):
            yield (total, (*advice[:at], (state, ratio(number(chance) / 2)), *advice[at + 1:]))
            yield (total, (*advice[:at], (state, ratio(-number(chance))), *advice[at + 1:]))
            halved = (state, ratio(number(chance) / 2))
            yield (total, (*advice[:at], halved, halved, *advice[at + 1:]))

    def test_other_right_values(self):
        # Two players who avoid each other on two equal roads: both such states, mixed in any way.
        game = (2, ((0, 1, (3, 5)), (0, 1, (3, 5))), ((0, 1), (0, 1)))
        for top in range(1, 12):
            value = ((6, 1), ((((0,), (1,)), (top, 12) if top in (1, 5, 7, 11) else ratio(Fraction(top, 12))),
                              (((1,), (0,)), ratio(1 - Fraction(top, 12)))))
            self.assertIs(shows_advice(game, value), True)
        for state in (((0,), (1,)), ((1,), (0,))):
            self.assertIs(shows_advice(game, ((6, 1), ((state, (1, 1)),))), True)
        for state in (((0,), (0,)), ((1,), (1,))):
            self.assertIs(shows_advice(game, ((6, 1), ((state, (1, 1)),))), False)
            self.assertIs(shows_advice(game, ((10, 1), ((state, (1, 1)),))), False)

    def test_advice_that_is_not_the_best(self):
        # Both of two states stand; only the cheaper one is best.
        game = (2, ((0, 1, (1, 9)), (0, 1, (4, 8))), ((0, 1), (0, 1)))
        self.assertEqual(least_of(game), 5)
        game = (3, ((0, 1, (0, 0)), (0, 1, (1, 1)), (1, 2, (0, 0))), ((0, 1), (0, 2)))
        self.assertIs(shows_advice(game, ((0, 1), ((((0,), (0, 2)), (1, 1)),))), True)
        self.assertIs(shows_advice(game, ((1, 1), ((((0,), (1, 2)), (1, 1)),))), False)

    def test_values_of_all_kinds(self):
        right = ((1, 1), ((((0,),), (1, 1)),))
        self.assertIs(shows_advice(ONE, right), True)
        for value in (*INTEGER_WRONGS, [*right], right[:1], (*right, 0), right[::-1], {0: right}, (1, right[1]),
                      ([1, 1], right[1]), ((True, 1), right[1]), ((1, True), right[1]), ((2, 2), right[1]),
                      ((-1, -1), right[1]), (right[0], None), (right[0], [*right[1]]), (right[0], ([((0,),), (1, 1)],)),
                      (right[0], (([(0,)], (1, 1)),)), (right[0], ((([0],), (1, 1)),)),
                      (right[0], ((((False,),), (1, 1)),)), (right[0], ((((0,),), 1),)),
                      (right[0], ((((0,),), (2, 2)),)),
                      (right[0], ((((0,),), (True, 1)),)), (right[0], ((((0,),), [1, 1]),)),
                      (right[0], ((((0,),), (1, 1), 0),)),
                      (right[0], ((((0,),),),)), (right[0], ((((0,),), (1, 1)), (((1,),), (0, 1)))),
                      (right[0], ((((0,),), (2, 1)), (((1,),), (-1, 1)))), (right[0], (((0,), (1, 1)),)),
                      (right[0], ((((0,), (0,)), (1, 1)),)), (right[0], (None,)), (right[0], ({},)), (right[0], ())):
            self.assertIs(shows_advice(ONE, value), False, value)


class ShowsPaperTest(Raising, unittest.TestCase):
    def test_near_values(self):
        kept = 0
        for game in [*small_games(115, 50), *mixing_games(116, 12)]:
            for near in self.near(game, advice_paper(game)):
                wanted = is_paper(game, near)
                kept += wanted
                self.assertIs(shows_advice_paper(game, near), wanted, (game, near))
        self.assertGreater(kept, 20)

    def near(self, game, paper):
        yield from ((), paper[1:], paper[:-1], paper[::-1], paper * 2)
        for factor in (Fraction(1, 2), Fraction(2), Fraction(101, 100)):
            yield tuple((*row[:3], ratio(number(row[3]) * factor)) for row in paper)
        for at, row in enumerate(paper):
            for step in (Fraction(1, 10), Fraction(-1, 10), Fraction(1, 10 ** 9), -number(row[3])):
                yield (*paper[:at], (*row[:3], ratio(number(row[3]) + step)), *paper[at + 1:])
            yield (*paper[:at], (row[0], row[2], row[1], row[3]), *paper[at + 1:])
            yield (*paper[:at], row, row, *paper[at + 1:])
        for triple, _ in exchanges_of(game)[::2]:
            worths = {row[:3]: number(row[3]) for row in paper}
            worths[triple] = worths.get(triple, 0) + Fraction(1, 7)
            yield tuple((*key, ratio(worths[key])) for key in sorted(worths))

    def test_other_right_papers(self):
        # A player alone: what the dearer road makes more when left for the cheaper one may be counted up to once.
        game = (2, ((0, 1, (1,)), (0, 1, (4,))), ((0, 1),))
        for top in range(1, 20):
            size = ratio(Fraction(top, 4))
            # Leaving the road 0 for the road 1 makes 3 more: that would take from the total 1, which is the least.
            self.assertIs(shows_advice_paper(game, ((0, (0,), (1,), size),)), False)
            self.assertIs(shows_advice_paper(game, ((0, (1,), (0,), size),)), True)
            self.assertIs(shows_advice_paper(game, ((0, (0,), (1,), size), (0, (1,), (0,), size))), False)
        self.assertIs(shows_advice_paper(game, ()), True)
        # The same exchange may not stand there twice, neither with two ratios nor with one.
        for sizes in (((1, 3), (2, 3)), ((2, 3), (1, 3)), ((1, 2), (1, 2))):
            self.assertIs(shows_advice_paper(game, tuple((0, (1,), (0,), size) for size in sizes)), False)

    def test_several_exchanges_of_one_way(self):
        # A way may be left for each of two cheaper ones.
        game = (2, tuple((0, 1, (cost,)) for cost in (1, 3, 9)), ((0, 1),))
        rows = ((0, (1,), (0,), (1, 2)), (0, (2,), (0,), (2, 1)), (0, (2,), (1,), (1, 3)))
        for value in (rows, rows[1:], rows[:2], rows[::2]):
            self.assertIs(shows_advice_paper(game, value), True)
            self.assertIs(shows_advice_paper(game, value[::-1]), False)

    def test_values_of_all_kinds(self):
        right = ((0, (1,), (0,), (1, 2)),)
        self.assertIs(shows_advice_paper(ONE, right), True)
        row = right[0]
        for value in (*INTEGER_WRONGS, [*right], row, {0: row}, ([*row],), (row[:3],), ((*row, 0),), (row, row),
                      (None,),
                      ((False, *row[1:]),), ((1, *row[1:]),), ((-1, *row[1:]),), (("0", *row[1:]),), (([], *row[1:]),),
                      ((0, [1], (0,), (1, 2)),), ((0, (True,), (0,), (1, 2)),), ((0, (1,), (False,), (1, 2)),),
                      ((0, (1,), [0], (1, 2)),), ((0, (1,), (1,), (1, 2)),), ((0, (1,), (2,), (1, 2)),),
                      ((0, (1,), None, (1, 2)),), ((0, (), (0,), (1, 2)),), ((0, (1,), (0,), (0, 1)),),
                      ((0, (1,), (0,), (-1, 2)),), ((0, (1,), (0,), (2, 4)),), ((0, (1,), (0,), (True, 2)),),
                      ((0, (1,), (0,), [1, 2]),), ((0, (1,), (0,), 1),), ((0, (1,), (0,), None),), ({}, {})):
            if value != ():
                self.assertIs(shows_advice_paper(ONE, value), False, value)


class WrongTest(Raising, unittest.TestCase):
    def test_games(self):
        for function in ALL:
            for index, game in BAD_GAMES:
                self.assert_raises(BadGame, {"index": index}, call, function, game)

    def test_the_other_bounds_come_first(self):
        for function in ALL:
            for most, game, _ in TOO_LARGE:
                self.assert_raises(TooMany, {"most": most}, call, function, game)
            self.assert_raises(TooMany, {"most": 20}, call, function, lanes_game(5, 2))
            self.assert_raises(TooMany, {"most": 20}, call, function, lanes_game(3, 3))
            call(function, lanes_game(8, 1))
            call(function, lanes_game(2, 4))

    def test_games_are_not_modified(self):
        for game in sample_games(117, 12):
            before = repr(game)
            if len(states_of(game)) <= 20:
                for function in ALL:
                    call(function, game)
            self.assertEqual(repr(game), before)


if __name__ == "__main__":
    unittest.main()
