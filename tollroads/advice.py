"""Advice: states drawn by chance such that no player gains by another way than the advised one."""

from tollroads.climbs import Climb
from tollroads.errors import TooMany
from tollroads.nets import is_way
from tollroads.plays import bounded_play
from tollroads.ratios import ONE, ZERO, add_all, add_products, less, subtract
from tollroads.shapes import is_amount, is_ascending, is_ratio, is_row, is_whole

MOST_STATES = 20


def advised_play(game):
    """Return the play of a game, or raise an error; the bound on its states for advice is the last one."""
    play = bounded_play(game)
    if len(play.states()) > MOST_STATES:
        raise TooMany(MOST_STATES)
    return play


def exchanges(play):
    """Return the ascending list of all triples of a player and two unlike ways."""
    found = []
    for player, table in enumerate(play.tables):
        found.extend([(player, way, other) for way in table for other in table if way != other])
    return found


def more_in(play, state, exchange):
    """Return how much more time the other way takes a player who has the first one, 0 for a player who has not."""
    player, way, other = exchange
    if state[player] != way:
        return 0
    return play.more_by(state, player, other)


def search_of(play):
    """Return the search for the greatest sum such that worths of exchanges show that no advice has a smaller one.

    By the duality of linear programs the worths of the states' bounds there are the chances of the best advice. Each
    total is counted one too great: so the sum is never 0, which makes the chances add up to 1.
    """
    chosen = exchanges(play)
    factors = [[1, *[more_in(play, state, exchange) for exchange in chosen]] for state in play.states()]
    bounds = [play.total(state) + 1 for state in play.states()]
    search = Climb(factors, bounds, [1, *[0 for _ in chosen]])
    search.climb()
    return search


def least_sum(play):
    return subtract(search_of(play).best_amounts()[0], ONE)


def sum_of(play, advice):
    """Return the sum of the chances times the totals."""
    return add_products([chance for _, chance in advice], [(play.total(state), 1) for state, _ in advice])


def best_advice(game):
    """Return the pair of the least sum of chances times totals and advice with it."""
    play = advised_play(game)
    chances = search_of(play).worths()
    advice = tuple([(state, chance) for state, chance in zip(play.states(), chances) if chance != ZERO])
    return (sum_of(play, advice), advice)


def advice_paper(game):
    """Return a tuple of exchanges and their worths that show that no advice has a smaller sum."""
    play = advised_play(game)
    worths = search_of(play).best_amounts()[1:]
    return tuple([(*exchange, worth) for exchange, worth in zip(exchanges(play), worths) if worth != ZERO])


def is_chance(play, value):
    """Tell whether a value is a pair of a state and a positive ratio."""
    return is_row(value, 2, 2) and play.is_state(value[0]) and is_amount(value[1]) and value[1] != ZERO


def is_advice(play, value):
    """Tell whether a value is advice."""
    if not (isinstance(value, tuple) and all([is_chance(play, pair) for pair in value])):
        return False
    if not is_ascending([state for state, _ in value]) or add_all([chance for _, chance in value]) != ONE:
        return False
    chances = [chance for _, chance in value]
    for exchange in exchanges(play):
        if add_products(chances, [(more_in(play, state, exchange), 1) for state, _ in value])[0] < 0:
            return False
    return True


def shows_advice(game, value):
    """Tell whether a value is a pair as `best_advice` may return."""
    play = advised_play(game)
    if not (is_row(value, 2, 2) and is_ratio(value[0]) and is_advice(play, value[1])):
        return False
    return value[0] == sum_of(play, value[1]) == least_sum(play)


def is_entry(play, value):
    """Tell whether a value is an exchange with a positive ratio behind it."""
    if not (is_row(value, 4, 4) and is_whole(value[0], 0, len(play.tables) - 1)):
        return False
    player, way, other, worth = value
    table = play.tables[player]
    if not (is_way(table, way) and is_way(table, other)) or way == other:
        return False
    return is_amount(worth) and worth != ZERO


def shows_advice_paper(game, value):
    """Tell whether a value is a tuple as `advice_paper` may return."""
    play = advised_play(game)
    if not (isinstance(value, tuple) and all([is_entry(play, entry) for entry in value])):
        return False
    if not is_ascending([entry[:3] for entry in value]):
        return False
    least = least_sum(play)
    worths = [entry[3] for entry in value]
    for state in play.states():
        taken = add_products(worths, [(more_in(play, state, entry[:3]), 1) for entry in value])
        if less(subtract((play.total(state), 1), taken), least):
            return False
    return True
