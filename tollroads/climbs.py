"""Linear programs: the greatest sum of gains under bounds, found in integers by the simplex method."""

from tollroads.elimination import cleared
from tollroads.ratios import ratio


class Climb:
    """The search for amounts from 0 on with the greatest sum of gains times amounts.

    No row of factors times the amounts may exceed the bound of the row. All of them are integers, the bounds from 0
    on, so that the search can begin with no amounts at all. Each row has a spare amount, by which it falls short.
    """

    def __init__(self, factors, bounds, gains):
        self.many = len(bounds)
        self.width = len(gains)
        self.rows = []
        for place, bound in enumerate(bounds):
            spare = [int(place == other) for other in range(self.many)]
            self.rows.append([*factors[place], *spare, bound])
        self.rows.append([-gain for gain in gains] + [0 for _ in range(self.many + 1)])
        self.counted = [self.width + place for place in range(self.many)]
        # All numbers in the rows are tops over this bottom.
        self.bottom = 1
        self.endless = None

    def climb(self):
        """Go up to the greatest sum; return whether there is one.

        Of several columns the first one is taken, which keeps the search from going round (R. Bland 1977).
        """
        column = self.rising()
        while column is not None and self.endless is None:
            row = self.narrowest(column)
            if row is None:
                self.endless = column
            else:
                self.rows = cleared(self.rows, row, column, self.bottom)
                self.bottom = self.rows[row][column]
                self.counted[row] = column
                column = self.rising()
        return self.endless is None

    def rising(self):
        """Return the first column whose amount lets the sum rise, None if there is none."""
        for column in range(self.width + self.many):
            if self.rows[-1][column] < 0:
                return column
        return None

    def narrowest(self, column):
        """Return the row that first stops the amount of a column from growing, None if none does."""
        found = None
        for place in range(self.many):
            if self.rows[place][column] > 0 and (found is None or self.is_narrower(place, found, column)):
                found = place
        return found

    def is_narrower(self, one, other, column):
        left = self.rows[one][-1] * self.rows[other][column]
        right = self.rows[other][-1] * self.rows[one][column]
        return left < right or (left == right and self.counted[one] < self.counted[other])

    def best_amounts(self):
        """Return the list of the amounts."""
        found = [(0, 1) for _ in range(self.width + self.many)]
        for place, column in enumerate(self.counted):
            found[column] = ratio(self.rows[place][-1], self.bottom)
        return found[:self.width]

    def worths(self):
        """Return, for each row, by how much the greatest sum grows with its bound."""
        return [ratio(top, self.bottom) for top in self.rows[-1][self.width:-1]]

    def direction(self):
        """Return the list of changes of the amounts that let the sum grow without end."""
        found = [(0, 1) for _ in range(self.width + self.many)]
        found[self.endless] = (1, 1)
        for place, column in enumerate(self.counted):
            found[column] = ratio(-self.rows[place][self.endless], self.bottom)
        return found[:self.width]
