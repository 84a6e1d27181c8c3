"""Games as texts."""

from tollroads.errors import InvalidText
from tollroads.plays import check_inside, plain_play
from tollroads.readers import reader_of

MOST_ROADS = 8
MOST_PLAYERS = 4


def write_game(game):
    """Return the text of a game."""
    plain_play(game)
    size, roads, players = game
    parts = [size]
    for start, end, costs in roads:
        parts.extend(["|", start, end, ":", *costs])
    for start, goal in players:
        parts.extend(["#", start, goal])
    return " ".join([str(part) for part in parts])


def read_table(reader):
    """Return a tuple of at least one cost; none is smaller than the one before it."""
    costs = [reader.read_number(0, 1000, None)]
    while reader.at_number():
        costs.append(reader.read_number(costs[-1], 1000, None))
    return tuple(costs)


def read_roads(reader, size):
    """Return the tuple of the roads, behind which the players stand."""
    roads = []
    # What stands behind eight roads is left to the players, who refuse another bar.
    while len(roads) == 0 or (len(roads) < MOST_ROADS and reader.ahead() == "|"):
        reader.read_sign("|")
        start, end = reader.read_joint(size)
        reader.read_sign(":")
        roads.append((start, end, read_table(reader)))
    return tuple(roads)


def read_players(reader, size):
    """Return the tuple of the players, with whom the text ends."""
    players = []
    while len(players) == 0 or not reader.at_end():
        if len(players) == MOST_PLAYERS:
            raise InvalidText(reader.place)
        reader.read_sign("#")
        players.append(reader.read_joint(size))
    return tuple(players)


def read_game(text):
    """Return the game that a text names."""
    reader = reader_of(text)
    size = reader.read_number(2, 6, None)
    roads = read_roads(reader, size)
    players = read_players(reader, size)
    game = (size, roads, players)
    check_inside(game, len(players))
    return game
