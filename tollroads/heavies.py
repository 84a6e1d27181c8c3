"""Heavy games: players of unlike weights, for whom perhaps no state stands."""

from tollroads.errors import BadWeights
from tollroads.plays import Play, check_form, check_inside, moved
from tollroads.shapes import is_row, is_whole


def heavy_play(weights, game):
    """Return the play of a heavy game, or raise the error of the leftmost wrong argument."""
    if not (is_row(weights, 1, 4) and all([is_whole(weight, 1, 3) for weight in weights])):
        raise BadWeights("weights are 1 to 4 integers from 1 to 3")
    check_form(game, len(weights), len(weights))
    check_inside(game, sum(weights))
    play = Play(game, weights)
    play.check_few()
    return play


def heavy_standing(weights, game):
    """Return the ascending tuple of all states in which no player alone has another way with a smaller time."""
    return tuple(heavy_play(weights, game).standing())


def heavy_ring(weights, game):
    """Return a tuple of states, each a better one for a player who leaves the one before, all around.

    It is None if there is a state that stands.
    """
    play = heavy_play(weights, game)
    if len(play.standing()) > 0:
        return None
    met = []
    state = play.states()[0]
    while state not in met:
        met.append(state)
        player, way = play.better_steps(state)[0]
        state = moved(state, player, way)
    return tuple(met[met.index(state):])


def follows(play, one, other):
    """Tell whether a state is made of another one by one player's other way with a smaller time."""
    movers = [player for player, way in enumerate(one) if way != other[player]]
    return len(movers) == 1 and other[movers[0]] in play.better_ways(one, movers[0])


def shows_heavy_ring(weights, game, value):
    """Tell whether a value is a ring of unlike states, or None where there is a state that stands."""
    play = heavy_play(weights, game)
    if value is None:
        return len(play.standing()) > 0
    if not (isinstance(value, tuple) and all([play.is_state(state) for state in value])):
        return False
    if len(value) < 2 or len(set(value)) < len(value):
        return False
    return all([follows(play, one, other) for one, other in zip(value, (*value[1:], value[0]))])
