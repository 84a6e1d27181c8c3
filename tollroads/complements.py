"""Linear complementarity problems, solved in integers along a path of C. Lemke (1965)."""

from tollroads.elimination import cleared


def complements(matrix, shifts):
    """Return (tops, bottom), the tops over the bottom of amounts from 0 on, or None if there are none.

    What the matrix makes of the amounts, plus the shifts, must be from 0 on, and 0 at each place where the amount is
    not. The matrix and the shifts are integers; no amounts times what the matrix makes of them may be below 0. Then
    the path ends without a solution only where no amounts at all keep what is made of them from 0 on.
    """
    path = Path(matrix, shifts)
    if min(shifts) < 0:
        path.begin()
        while path.entering is not None:
            path.go_on()
    if path.extra in path.counted:
        return None
    return path.tops(), path.bottom


class Path:
    """A path of solutions to equations between amounts and what is left of them, with an extra amount at first.

    The columns of a row are those of what is left, one for each place, those of the amounts, the extra amount, which
    helps at all places alike and must leave in the end, and the shift.
    """

    def __init__(self, matrix, shifts):
        self.many = len(shifts)
        self.extra = 2 * self.many
        self.rows = []
        for place, shift in enumerate(shifts):
            left = [int(place == other) for other in range(self.many)]
            self.rows.append([*left, *[-factor for factor in matrix[place]], -1, shift])
        self.counted = list(range(self.many))
        self.order = [self.extra + 1, *self.counted]
        # All numbers in the rows are tops over this bottom.
        self.bottom = 1
        self.entering = None

    def begin(self):
        """Take in the extra amount, just as large as the greatest lack needs it."""
        lowest = min([row[-1] for row in self.rows])
        # Of equal lacks the last one is the greatest in the order of `is_before`.
        top = max([place for place in range(self.many) if self.rows[place][-1] == lowest])
        self.rows[top] = [-entry for entry in self.rows[top]]
        self.bring_in(self.extra, top)

    def bring_in(self, column, place):
        """Count a column at a place; the partner of the column that was counted there enters next, if it has one."""
        self.rows = cleared(self.rows, place, column, self.bottom)
        self.bottom = self.rows[place][column]
        left = self.counted[place]
        self.counted[place] = column
        if left == self.extra:
            self.entering = None
        else:
            self.entering = (left + self.many) % self.extra

    def go_on(self):
        """Bring in the column that enters at the row that stops it first; without one the path has no end."""
        found = None
        for place in range(self.many):
            if self.rows[place][self.entering] > 0 and (found is None or self.is_before(place, found)):
                found = place
        if found is None:
            self.entering = None
        else:
            self.bring_in(self.entering, found)

    def is_before(self, one, other):
        """Tell whether one row stops the column that enters earlier than another row.

        It is decided as if the shifts were a little greater, each by far less than the one before: so no two rows stop
        it at once, and the path never comes back to where it was.
        """
        for column in self.order:
            left = self.rows[one][column] * self.rows[other][self.entering]
            right = self.rows[other][column] * self.rows[one][self.entering]
            if left != right:
                return left < right
        return False

    def tops(self):
        """Return the list of the tops of the amounts."""
        found = [0 for _ in range(self.extra)]
        for place, column in enumerate(self.counted):
            found[column] = self.rows[place][-1]
        return found[self.many:]
