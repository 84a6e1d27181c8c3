"""States of games in which nobody has a better way, walks to them and what they cost."""

from tollroads.nets import is_way
from tollroads.plays import bounded_play, moved, play_at
from tollroads.ratios import ratio
from tollroads.shapes import is_row, is_whole


def better_steps(game, state):
    """Return the ascending tuple of all pairs (player, way) that make the player's time smaller."""
    return tuple(play_at(game, state).better_steps(state))


def least_ways(play, state, player):
    """Return the ascending tuple of the ways of a player with the least time if the others stay."""
    times = play.times_by_way(state, player)
    lowest = min(times)
    return tuple([way for way, time in zip(play.tables[player], times) if time == lowest])


def best_answers(game, state):
    """Return the tuple with, for each player, the ascending tuple of the ways with the least time."""
    play = play_at(game, state)
    return tuple([least_ways(play, state, player) for player in range(len(state))])


def stands(game, state):
    """Tell whether no player alone has another way with a smaller time."""
    return len(better_steps(game, state)) == 0


def standing_states(game):
    """Return the ascending tuple of all states that stand."""
    return tuple(bounded_play(game).standing())


def walk_to_standing(game, state):
    """Return a tuple of pairs (player, way) that lead, each making the player's time smaller, to one that stands.

    Each step makes the potential smaller by what the player gains, so that the walk comes to an end.
    """
    play = play_at(game, state)
    walk = []
    steps = play.better_steps(state)
    while len(steps) > 0:
        player, way = steps[0]
        walk.append((player, way))
        state = moved(state, player, way)
        steps = play.better_steps(state)
    return tuple(walk)


def is_better_step(play, state, value):
    """Tell whether a value is a pair of a player and a way with which the player's time is smaller."""
    if not (is_row(value, 2, 2) and is_whole(value[0], 0, len(state) - 1)):
        return False
    player, way = value
    return is_way(play.tables[player], way) and way in play.better_ways(state, player)


def is_walk(play, state, value):
    """Tell whether a value is a tuple of such pairs that lead, one behind another, to a state that stands."""
    if not isinstance(value, tuple):
        return False
    for step in value:
        if not is_better_step(play, state, step):
            return False
        player, way = step
        state = moved(state, player, way)
    return len(play.better_steps(state)) == 0


def shows_walk(game, state, value):
    """Tell whether a value is a tuple as `walk_to_standing` may return."""
    return is_walk(play_at(game, state), state, value)


def best_state(game):
    """Return the pair of the least total and the smallest state with it."""
    play = bounded_play(game)
    return min([(play.total(state), state) for state in play.states()])


def lowest_state(game):
    """Return the pair of the least potential and the smallest state with it."""
    play = bounded_play(game)
    return min([(play.potential(state), state) for state in play.states()])


def standing_prices(game):
    """Return the pair of the least and the greatest total of states that stand, divided by the least total of all.

    It is None if the least total of all is 0.
    """
    play = bounded_play(game)
    least, _ = best_state(game)
    if least == 0:
        return None
    totals = [play.total(state) for state in play.standing()]
    return (ratio(min(totals), least), ratio(max(totals), least))
