"""What the tests of games share: games, and an own reckoning of times and states from their definitions."""

import itertools
import random
from functools import lru_cache

from tests.support import INTEGER_WRONGS, ways_of

PAIR = (3, ((0, 1, (1, 2)), (1, 2, (0, 0)), (0, 2, (2, 5))), ((0, 2), (0, 2)))
ONE = (2, ((0, 1, (1,)), (0, 1, (2,))), ((0, 1),))
ALONE = (2, ((0, 1, (7,)),), ((0, 1),))
FREE = (2, ((0, 1, (0, 0)), (0, 1, (0, 3))), ((0, 1), (0, 1)))
# Two of three on the first road stand, for 7 together; with one on it all would take 6. Advice can mix both.
MIXED = (2, ((0, 1, (0, 2, 4)), (0, 1, (3, 3, 3))), ((0, 1),) * 3)
# Four players, of whom two share start and goal, over a middle road and roads around it.
CROWD = (4, ((0, 1, (1, 3, 6, 9)), (0, 2, (2, 2, 2, 8)), (1, 2, (0, 1, 1, 1)), (1, 3, (4, 4, 5, 9)),
             (2, 3, (1, 2, 5, 5)), (0, 3, (6, 6, 6, 7))), ((0, 3), (0, 3), (1, 3), (0, 2)))
# A heavy game in which no state stands, for the weights 1 and 2.
RESTLESS_TABLES = ((13, 26, 39), (34, 35, 36), (45, 48, 53), (3, 12, 27), (6, 24, 54), (47, 94, 141))
RESTLESS_ENDS = ((0, 1), (1, 3), (0, 2), (2, 3), (1, 2), (0, 3))
RESTLESS = (4, tuple((*ends, table) for ends, table in zip(RESTLESS_ENDS, RESTLESS_TABLES)), ((0, 3), (0, 3)))


def lanes_game(lanes, players, entries=None):
    """A game over so many roads side by side; costs grow by one with each of the entries."""
    entries = players if entries is None else entries
    roads = tuple((0, 1, tuple(range(road, road + entries))) for road in range(lanes))
    return (2, roads, ((0, 1),) * players)


def chained(*lanes, entries=1):
    """The nodes and roads of some rows of roads side by side, one row behind another."""
    roads = tuple((at, at + 1, (1,) * entries) for at, many in enumerate(lanes) for _ in range(many))
    return (len(lanes) + 1, roads)


def chain_game(lanes, players):
    """A game over some rows of roads side by side, one row behind another."""
    return (*chained(*lanes, entries=len(players)), players)


NINE_WAYS = chain_game((3, 3), ((0, 2), (0, 1)))
# Five ways of three players and eight of the fourth one.
THOUSAND_STATES = (4, tuple((*ends, (1, 2, 3, 4)) for ends in ((0, 1),) * 4 + ((1, 2),) * 2 + ((3, 0), (3, 1))),
                   ((3, 1), (3, 1), (3, 1), (0, 2)))
MORE_STATES = chain_game((2, 2, 2), ((0, 3), (0, 3), (0, 2), (1, 3)))
# Pairs of the index of the error and a bad game, and bad states of PAIR.
BAD_GAMES = ((None, None), (None, [*PAIR]), (None, (7, *PAIR[1:])), (0, (3, ("x",), ("x",))),
             (2, (3, (*PAIR[1][:2], (0, 2, (5, 2))), PAIR[2])), (0, (3, PAIR[1], ((0, 2),))),
             (3, (3, PAIR[1], ((2, 0), (0, 2)))), (4, (3, PAIR[1], ((0, 2), (2, 2)))))
BAD_STATES = (*INTEGER_WRONGS, ((2,),), ((2,), (2,), (2,)), [(2,), (2,)], ((2,), (1,)), ((2,), (True,)), ((2,), [2]),
              ((0, True), (2,)), ((2,), None))
# Triples of a bound and a game and one of its states that are beyond it.
TOO_LARGE = ((8, NINE_WAYS, ((0, 3), (1,))),
             (8, chain_game((4, 3), ((0, 1),) * 3 + ((0, 2),)), ((0,), (0,), (0,), (0, 4))),
             (1000, MORE_STATES, ((0, 2, 4), (0, 2, 4), (0, 2), (2, 4))), (1000, lanes_game(6, 4), ((0,),) * 4))


def plain(game):
    return (1,) * len(game[2])


@lru_cache(maxsize=None)
def tables_of(game):
    return [ways_of(game, *player) for player in game[2]]


def states_of(game):
    return list(itertools.product(*tables_of(game)))


def counts_of(game, weights, state):
    found = [0] * len(game[1])
    for weight, way in zip(weights, state):
        for road in way:
            found[road] += weight
    return found


def times_of(game, weights, state):
    counts = counts_of(game, weights, state)
    return [sum(game[1][road][2][counts[road] - 1] for road in way) for way in state]


def changed(state, player, way):
    return tuple(way if at == player else own for at, own in enumerate(state))


def better_steps_of(game, weights, state):
    found = []
    for player, table in enumerate(tables_of(game)):
        for way in table:
            if times_of(game, weights, changed(state, player, way))[player] < times_of(game, weights, state)[player]:
                found.append((player, way))
    return found


def standing_of(game, weights):
    return [state for state in states_of(game) if not better_steps_of(game, weights, state)]


def sample_game(chance, players, entries):
    """A game by chance with so many players and entries, small enough to try all states."""
    while True:
        size = chance.choice((2, 3, 3, 4, 4, 5, 6))
        most = chance.choice((2, 4, 20, 1000))
        roads = []
        for _ in range(chance.randint(1, 8)):
            start, end = chance.sample(range(size), 2)
            if chance.random() < 0.7 and start > end:
                start, end = end, start
            # Costs out of a few values, so that tables often stay equal.
            costs = chance.choices([chance.randint(0, most) for _ in range(3)], k=entries)
            roads.append((start, end, tuple(sorted(costs))))
        game = (size, tuple(roads), ())
        ends = [(start, goal) for start in range(size) for goal in range(size) if start != goal]
        ends = [pair for pair in ends if 1 <= len(ways_of(game, *pair)) <= 6]
        if ends:
            ends.sort(key=lambda pair: -len(ways_of(game, *pair)))
            game = (size, tuple(roads), tuple(chance.choice(ends[:3]) for _ in range(players)))
            if len(states_of(game)) <= 150:
                return game


def sample_games(seed, many):
    """So many games of one to four players, the same ones in each run."""
    chance = random.Random(seed)
    found = []
    for at in range(many):
        players = at % 4 + 1
        found.append(sample_game(chance, players, players))
    return found


def sample_heavy(seed, many):
    """So many pairs (weights, heavy game)."""
    chance = random.Random(seed)
    found = []
    for at in range(many):
        weights = tuple(chance.randint(1, 3) for _ in range(at % 4 + 1))
        found.append((weights, sample_game(chance, len(weights), sum(weights))))
    return found
