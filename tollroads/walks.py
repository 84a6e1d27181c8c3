"""The shortest and the longest walks to states that stand."""

from tollroads.plays import bounded_play, moved, play_at
from tollroads.shapes import is_row
from tollroads.standings import is_walk


def longer_walks(play, walks):
    """Return, by the states that they lead to, walks with one step more than the given ones, by their states."""
    found = {}
    for state, walk in walks.items():
        for player, way in play.better_steps(state):
            found[moved(state, player, way)] = (*walk, (player, way))
    return found


def fewest_steps(game, state):
    """Return the pair of the least number of steps to a state that stands and a walk of so many steps."""
    play = play_at(game, state)
    walks = {state: ()}
    ended = ended_walks(play, walks)
    while len(ended) == 0:
        walks = longer_walks(play, walks)
        ended = ended_walks(play, walks)
    return (len(ended[0]), ended[0])


def ended_walks(play, walks):
    """Return the list of those walks that lead to a state that stands."""
    return [walk for state, walk in walks.items() if len(play.better_steps(state)) == 0]


def longest_from_all(play):
    """Return a dict with, for each state, a walk from it with as many steps as any has."""
    found = {}
    # Each step makes the potential smaller, so that the walks of all states to which it may lead are there already.
    for _, state in sorted([(play.potential(state), state) for state in play.states()]):
        walks = [((player, way), *found[moved(state, player, way)]) for player, way in play.better_steps(state)]
        found[state] = max([(), *walks], key=len)
    return found


def longest_pair(play):
    """Return the pair of a state and a walk from it with as many steps as any walk from any state has."""
    found = longest_from_all(play)
    _, state = max([(len(walk), state) for state, walk in found.items()])
    return (state, found[state])


def longest_walk(game):
    """Return the pair of a state and a walk from it with as many steps as any walk from any state has."""
    return longest_pair(bounded_play(game))


def shows_longest(game, value):
    """Tell whether a value is a pair as `longest_walk` may return."""
    play = bounded_play(game)
    if not (is_row(value, 2, 2) and play.is_state(value[0]) and is_walk(play, value[0], value[1])):
        return False
    return len(value[1]) == len(longest_pair(play)[1])
