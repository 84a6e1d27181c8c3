"""Symmetric systems of equations between integers, solved without fractions."""


def reduce_rows(rows, width):
    """Return (rows, columns, last): the rows, each combined with others such that the first `width` columns hold
    in row k the pivot `last` at columns[k], alone in its column.

    Every entry stays an integer, since each division is exact (E. Bareiss 1968).
    """
    columns = []
    last = 1
    for column in range(width):
        at = first_filled(rows, len(columns), column)
        if at is not None:
            rows = swapped(rows, len(columns), at)
            rows = cleared(rows, len(columns), column, last)
            last = rows[len(columns)][column]
            columns.append(column)
    return rows, columns, last


def first_filled(rows, begin, column):
    """Return the first index from begin on of a row that is not 0 in the column, None if there is none."""
    for at in range(begin, len(rows)):
        if rows[at][column] != 0:
            return at
    return None


def swapped(rows, one, other):
    changed = list(rows)
    changed[one] = rows[other]
    changed[other] = rows[one]
    return changed


def cleared(rows, top, column, last):
    """Return the rows with a 0 in the column of all rows but the top one."""
    lead = rows[top]
    pivot = lead[column]
    changed = []
    for at, row in enumerate(rows):
        if at == top:
            changed.append(row)
        else:
            changed.append([(pivot * old - row[column] * new) // last for old, new in zip(row, lead)])
    return changed


def one_solution(rows, columns, last, width):
    """Return (tops, last): the tops over the bottom `last` of a solution of a reduced system that has one."""
    tops = [0] * width
    for at, column in enumerate(columns):
        tops[column] = rows[at][width]
    return tops, last


def null_vectors(rows, columns, last, width):
    """Return a basis of what the left side of a reduced system takes to 0."""
    found = []
    for free in range(width):
        if free not in columns:
            vector = [0] * width
            vector[free] = last
            for at, column in enumerate(columns):
                vector[column] = -rows[at][free]
            found.append(vector)
    return found
