"""Slots for travellers: the cheapest plan, and prices with which everybody takes the slot that is best alone."""

from tollroads.errors import BadCapacity, BadCost, BadSlots
from tollroads.shapes import is_integer, is_row, is_whole

MOST_WISHED = 20
SLOTS = 31


class Desk:
    """Wished slots, how many travellers a slot has room for, and what a slot costs that is not the wished one."""

    def __init__(self, wishes, capacity, early, late):
        self.wishes = wishes
        self.capacity = capacity
        self.early = early
        self.late = late

    def cost(self, wish, slot):
        if slot < wish:
            return self.early * (wish - slot)
        return self.late * (slot - wish)

    def plan(self):
        """Return the pair of the least sum of costs and a tuple of slots with it.

        Travellers in the order of their wishes can take slots in the same order: if two exchange their slots so that
        they do, the costs of both together do not grow.
        """
        order = sorted([(wish, traveller) for traveller, wish in enumerate(self.wishes)])
        begun = {0: (0, ())}
        for slot in range(SLOTS):
            begun = self.with_slot([wish for wish, _ in order], begun, slot)
        cost, slots = begun[len(order)]
        placed = {traveller: slot for (_, traveller), slot in zip(order, slots)}
        return (cost, tuple([placed[traveller] for traveller in range(len(order))]))

    def with_slot(self, wishes, begun, slot):
        """Return the cheapest plans for the first wishes, by their number, if one slot more may be used."""
        found = {}
        for many, (cost, slots) in begun.items():
            for after in range(many, min(many + self.capacity, len(wishes)) + 1):
                more = sum([self.cost(wish, slot) for wish in wishes[many:after]])
                plan = (cost + more, (*slots, *[slot for _ in range(many, after)]))
                if after not in found or plan < found[after]:
                    found[after] = plan
        return found

    def least_prices(self):
        """Return the list of the least prices with which each traveller is content with the slot of the plan.

        No price of a slot with room left rises: else somebody could be moved there, from slot to slot, and all
        together would cost less.
        """
        _, slots = self.plan()
        prices = [0 for _ in range(SLOTS)]
        raised = self.raised(slots, prices)
        while raised != prices:
            prices = raised
            raised = self.raised(slots, prices)
        return prices

    def raised(self, slots, prices):
        """Return the prices, raised where a traveller would rather have another slot than the own one."""
        paid = [(wish, self.cost(wish, slot) + prices[slot]) for wish, slot in zip(self.wishes, slots)]
        found = []
        for slot, price in enumerate(prices):
            found.append(max([price, *[whole - self.cost(wish, slot) for wish, whole in paid]]))
        return found

    def worth(self, prices):
        """Return the sum of what the travellers pay at best, less the prices of all places in the slots."""
        paid = [min([self.cost(wish, slot) + price for slot, price in enumerate(prices)]) for wish in self.wishes]
        return sum(paid) - self.capacity * sum(prices)


def desk_of(wishes, capacity, early, late):
    """Return the desk, or raise the error of the leftmost wrong argument."""
    if not (is_row(wishes, 1, 8) and all([is_whole(wish, 0, MOST_WISHED) for wish in wishes])):
        raise BadSlots("wishes are 1 to 8 integers from 0 to 20")
    if not is_whole(capacity, 1, 4):
        raise BadCapacity("a capacity is an integer from 1 to 4")
    if not (is_whole(early, 1, 100) and is_whole(late, 1, 100)):
        raise BadCost("a cost is an integer from 1 to 100")
    return Desk(wishes, capacity, early, late)


def slot_plan(wishes, capacity, early, late):
    """Return the pair of the least sum of costs and a tuple of slots with it."""
    return desk_of(wishes, capacity, early, late).plan()


def slot_prices(wishes, capacity, early, late):
    """Return a tuple of prices of all slots that shows that no plan costs less."""
    return tuple(desk_of(wishes, capacity, early, late).least_prices())


def are_prices(value):
    """Tell whether a value is a tuple of integers from 0 on, one for each slot."""
    if not is_row(value, SLOTS, SLOTS):
        return False
    return all([is_integer(price) and price >= 0 for price in value])


def shows_prices(wishes, capacity, early, late, value):
    """Tell whether a value is a tuple as `slot_prices` may return."""
    desk = desk_of(wishes, capacity, early, late)
    least, _ = desk.plan()
    return are_prices(value) and desk.worth(value) == least
