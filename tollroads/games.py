"""What the players of a game meet in a state: times, loads and company."""

from tollroads.plays import play_at


def player_times(game, state):
    """Return the tuple of the times of all players."""
    play = play_at(game, state)
    return tuple([play.time_of(state, player) for player in range(len(state))])


def loads(game, state):
    """Return the tuple of the numbers of players on all roads."""
    return tuple(play_at(game, state).counts(state))


def others_beside(state, player):
    """Return the ascending tuple of the other players who use a road of a player's way."""
    found = []
    for other, way in enumerate(state):
        if other != player and any([road in state[player] for road in way]):
            found.append(other)
    return tuple(found)


def company(game, state):
    """Return the tuple with, for each player, the ascending tuple of the others on the roads of the player's way."""
    play_at(game, state)
    return tuple([others_beside(state, player) for player in range(len(state))])


def game_total(game, state):
    """Return the sum of the times of all players."""
    return play_at(game, state).total(state)


def game_potential(game, state):
    """Return the sum, over all roads, of the costs for 1, 2, .. up to the number of players on it."""
    return play_at(game, state).potential(state)
