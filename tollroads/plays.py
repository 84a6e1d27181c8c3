"""Games of players who choose their ways, each of whom counts on a road by a weight."""

from tollroads.errors import BadGame, BadState, TooMany
from tollroads.nets import is_joint, is_linked, is_way
from tollroads.shapes import is_row, is_whole
from tollroads.trips import tables_of

MOST_WAYS = 8
MOST_STATES = 1000


def is_table(entries, value):
    """Tell whether a value is a tuple of so many costs that never fall."""
    if not (is_row(value, entries, entries) and all([is_whole(cost, 0, 1000) for cost in value])):
        return False
    return all([earlier <= later for earlier, later in zip(value, value[1:])])


def is_played_road(size, entries, value):
    return is_row(value, 3, 3) and is_joint(size, value[0], value[1]) and is_table(entries, value[2])


def is_player(game, value):
    return is_row(value, 2, 2) and is_linked(game, value[0], value[1])


def has_form(value, fewest, most):
    """Tell whether a value is a triple of a size, 1 to 8 things for roads and `fewest` to `most` things for players."""
    if not (is_row(value, 3, 3) and is_whole(value[0], 2, 6)):
        return False
    return is_row(value[1], 1, 8) and is_row(value[2], fewest, most)


def first_bad(game, right_roads):
    """Return the index of the first bad road or player, roads counted first, None if all are right.

    It is told for each road whether it is right.
    """
    if False in right_roads:
        return right_roads.index(False)
    for index, player in enumerate(game[2]):
        if not is_player(game, player):
            return len(game[1]) + index
    return None


def check_form(game, fewest, most):
    if not has_form(game, fewest, most):
        raise BadGame(None)


def check_inside(game, entries):
    """Raise BadGame if a road, with a table of so many entries, or a player is bad."""
    index = first_bad(game, [is_played_road(game[0], entries, road) for road in game[1]])
    if index is not None:
        raise BadGame(index)


def plain_play(game):
    """Check a game; return its play with the weight 1 for each player.

    The bounds on ways and states are left to the caller, since TooMany comes after the errors of all other arguments.
    """
    check_form(game, 1, 4)
    check_inside(game, len(game[2]))
    return Play(game, [1 for _ in game[2]])


def bounded_play(game):
    """Return the same play where no other argument is left to check."""
    play = plain_play(game)
    play.check_few()
    return play


def play_at(game, state):
    """Return the same play, or raise the error of the leftmost of both arguments."""
    play = plain_play(game)
    play.check_state(state)
    return play


def moved(state, player, way):
    """Return the state with another way of one player."""
    return (*state[:player], way, *state[player + 1:])


class Play:
    """The roads of a game, the ways of its players and their weights."""

    def __init__(self, game, weights):
        self.roads = game[1]
        self.tables = tables_of(game, game[2])
        self.weights = weights

    def check_few(self):
        """Raise TooMany if a player has too many ways, or if there are too many states."""
        states = 1
        for table in self.tables:
            if len(table) > MOST_WAYS:
                raise TooMany(MOST_WAYS)
            states = states * len(table)
        if states > MOST_STATES:
            raise TooMany(MOST_STATES)

    def is_state(self, value):
        """Tell whether a value is a tuple with one way for each player."""
        many = len(self.tables)
        return is_row(value, many, many) and all([is_way(table, way) for table, way in zip(self.tables, value)])

    def check_state(self, value):
        """Raise BadState if a value is no state, and then TooMany if a bound is passed."""
        if not self.is_state(value):
            raise BadState("one way for each player is needed")
        self.check_few()

    def states(self):
        """Return the ascending list of all states."""
        found = [()]
        for table in self.tables:
            found = [(*state, way) for state in found for way in table]
        return found

    def counts(self, state):
        """Return the list of the sums of the weights on all roads."""
        found = [0 for _ in self.roads]
        for weight, way in zip(self.weights, state):
            for road in way:
                found[road] += weight
        return found

    def time_of(self, state, player):
        """Return the time of a player in a state."""
        counts = self.counts(state)
        return sum([self.roads[road][2][counts[road] - 1] for road in state[player]])

    def more_by(self, state, player, way):
        """Return how much more time a player takes by another way while the others stay."""
        return self.time_of(moved(state, player, way), player) - self.time_of(state, player)

    def times_by_way(self, state, player):
        """Return the list of the times of all ways of a player, in their order, while the others stay."""
        return [self.time_of(moved(state, player, way), player) for way in self.tables[player]]

    def better_ways(self, state, player):
        """Return the ascending list of the ways with which a player has a smaller time while the others stay."""
        now = self.time_of(state, player)
        times = self.times_by_way(state, player)
        return [way for way, time in zip(self.tables[player], times) if time < now]

    def better_steps(self, state):
        """Return the ascending list of the pairs of a player and a way with a smaller time."""
        return [(player, way) for player in range(len(state)) for way in self.better_ways(state, player)]

    def standing(self):
        """Return the ascending list of all states in which nobody has a better way."""
        return [state for state in self.states() if len(self.better_steps(state)) == 0]

    def total(self, state):
        return sum([self.time_of(state, player) for player in range(len(state))])

    def potential(self, state):
        """Return the sum, over all roads, of the first costs, as many as the count on it."""
        return sum([sum(road[2][:count]) for road, count in zip(self.roads, self.counts(state))])
