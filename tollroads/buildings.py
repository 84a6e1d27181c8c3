"""Buildings: players who share the prices of their roads."""

from tollroads.errors import BadBuilding
from tollroads.nets import is_joint, roads_on
from tollroads.plays import Play, first_bad, has_form
from tollroads.ratios import ratio
from tollroads.shapes import is_row, is_whole

# Each number of players from 1 to 4 divides it, so that each share of so many times a price is an integer.
PARTS = 12


def is_priced_road(size, value):
    return is_row(value, 3, 3) and is_joint(size, value[0], value[1]) and is_whole(value[2], 0, 1000)


def building_play(building):
    """Check a building; return the play of the game in which the times are the shares, PARTS times as large.

    The bounds on ways and states are left to the caller, since TooMany comes after the errors of all other arguments.
    """
    if not has_form(building, 1, 4):
        raise BadBuilding(None)
    size, roads, players = building
    index = first_bad(building, [is_priced_road(size, road) for road in roads])
    if index is not None:
        raise BadBuilding(index)
    numbers = list(range(1, len(players) + 1))
    shared = [(start, end, tuple([PARTS * price // many for many in numbers])) for start, end, price in roads]
    return Play((size, tuple(shared), players), [1 for _ in players])


def bounded_building(building):
    """Return the same play where no other argument is left to check."""
    play = building_play(building)
    play.check_few()
    return play


def shares(building, state):
    """Return the tuple of the sums of the shares of all players."""
    play = building_play(building)
    play.check_state(state)
    return tuple([ratio(play.time_of(state, player), PARTS) for player in range(len(state))])


def building_states(building):
    """Return the ascending tuple of all states that stand."""
    return tuple(bounded_building(building).standing())


def price_of(building, state):
    """Return the sum of the prices of the roads that are used in a state."""
    return sum([building[1][road][2] for road in roads_on(state)])


def building_prices(building):
    """Return the pair of the least and the greatest price of states that stand, divided by the least price of all.

    It is None if the least price of all is 0.
    """
    least, _ = cheapest_building(building)
    if least == 0:
        return None
    prices = [price_of(building, state) for state in building_states(building)]
    return (ratio(min(prices), least), ratio(max(prices), least))


def cheapest_building(building):
    """Return the pair of the least price of all states and the smallest state with it."""
    return min([(price_of(building, state), state) for state in bounded_building(building).states()])
