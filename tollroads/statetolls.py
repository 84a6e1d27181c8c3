"""Tolls with which a told state of a game stands, and papers that show how much the players must pay."""

from tollroads.climbs import Climb
from tollroads.nets import is_way
from tollroads.plays import play_at
from tollroads.ratios import ZERO, add, add_all, add_products, less, multiply
from tollroads.shapes import are_amounts, is_amount, is_ascending, is_row, is_whole
from tollroads.tollpapers import is_least_pair, proves


class StateCase:
    """A state of a game; the flows of its roads are the numbers of players on them.

    A move is a pair (player, way) of a player and a way that the player has not got in the state. `extras` tells for
    each move how much more time it takes the player.
    """

    def __init__(self, play, state):
        self.tables = play.tables
        self.state = state
        self.flows = [(count, 1) for count in play.counts(state)]
        self.moves = []
        for player, table in enumerate(play.tables):
            self.moves.extend([(player, way) for way in table if way != state[player]])
        self.extras = {(player, way): (play.more_by(state, player, way), 1) for player, way in self.moves}

    def fuller_by(self, road, move):
        """Return by how many players a road gets fuller with a move: 1, 0 or -1."""
        player, way = move
        return int(road in way) - int(road in self.state[player])

    def search(self):
        """Return the search for the moves that save most time while the players on each road at most double.

        What one more on a road is worth there is the road's toll: by the duality of linear programs the savings have
        an end just if there are tolls, and then they are the least sum that the players can pay.
        """
        factors = [[self.fuller_by(road, move) for move in self.moves] for road in range(len(self.flows))]
        gains = [-self.extras[move][0] for move in self.moves]
        return Climb(factors, [count for count, _ in self.flows], gains)

    def least_pair(self):
        """Return the pair of the least sum that the players pay and tolls with it, None if there are none."""
        search = self.search()
        if not search.climb():
            return None
        tolls = tuple(search.worths())
        return (add_products(self.flows, tolls), tolls)

    def paper(self):
        """Return the pair (found, changes) of a paper."""
        search = self.search()
        if search.climb():
            return (True, self.changes(search.best_amounts()))
        return (False, self.changes(search.direction()))

    def changes(self, amounts):
        """Return the ascending tuple of the moves with their amounts, where these are not 0."""
        return tuple([(*move, amount) for move, amount in zip(self.moves, amounts) if amount != ZERO])

    def are_tolls(self, value):
        """Tell whether a value is a tuple of tolls with which the state stands."""
        if not are_amounts(value, len(self.flows)):
            return False
        for player, way in self.moves:
            own = add_all([value[road] for road in self.state[player]])
            if less(add(self.extras[(player, way)], add_all([value[road] for road in way])), own):
                return False
        return True

    def is_change(self, value):
        """Tell whether a value is a move with a positive ratio behind it."""
        if not (is_row(value, 3, 3) and is_whole(value[0], 0, len(self.tables) - 1)):
            return False
        player, way, size = value
        return is_way(self.tables[player], way) and (player, way) in self.extras and is_amount(size) and size != ZERO

    def are_changes(self, value):
        """Tell whether a value is a tuple of such triples in ascending order."""
        if not (isinstance(value, tuple) and all([self.is_change(change) for change in value])):
            return False
        return is_ascending([change[:2] for change in value])

    def added(self, changes):
        """Return the list of what changes add to the numbers of players on all roads."""
        sizes = [size for _, _, size in changes]
        roads = list(range(len(self.flows)))
        return [add_products(sizes, [(self.fuller_by(road, row[:2]), 1) for row in changes]) for road in roads]

    def is_paper(self, value):
        """Tell whether a value is a paper."""
        if not (is_row(value, 2, 2) and isinstance(value[0], bool) and self.are_changes(value[1])):
            return False
        found, changes = value
        spent = add_all([multiply(size, self.extras[(player, way)]) for player, way, size in changes])
        return proves(self, found, self.added(changes), spent)


def checked_case(game, state):
    """Return the case of a state, or raise the error of the leftmost wrong argument."""
    return StateCase(play_at(game, state), state)


def state_tolls(game, state):
    """Return the pair of the least sum that the players pay and tolls with which the state stands, None if none do."""
    return checked_case(game, state).least_pair()


def shows_state_tolls(game, state, value):
    """Tell whether a value is a pair as `state_tolls` may return, or None where there are no tolls."""
    return is_least_pair(checked_case(game, state), value)


def state_paper(game, state):
    """Return a pair (found, changes) that shows that the players cannot pay less, or that there are no tolls."""
    return checked_case(game, state).paper()


def shows_state_paper(game, state, value):
    """Tell whether a value is a pair as `state_paper` may return."""
    return checked_case(game, state).is_paper(value)
