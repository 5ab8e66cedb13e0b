"""Linear programs over whole numbers: the greatest gain within limits, and the prices that show it.

The levels sought are from 0 on; of each row the sum of its entries times the
levels is at most its limit; the sum of the gains times the levels is to be the
greatest. Limits are from 0 on, and keep each level from growing without end.

A tableau has the rows with their limits at the end, and below them a foot: the
gains turned about. Its entries stand over one common bottom, so that all of
them stay whole. There is a variable for each level and for what is left of
each row, named in this order; those that a row stands for are within, those
that a column stands for are outside, and 0.
"""

from askedpairs.fractions import ZERO, lowest


def column_to_enter(foot, outside):
    """Tell the column of the least variable by which the gain grows, or None."""
    growing = [(variable, column) for column, variable in enumerate(outside) if foot[column] < 0]
    return min(growing)[1] if growing else None


def is_sooner(one, other):
    """Tell of two (limit, entry, variable) whether the first is met at a lower level; if alike, the lesser variable."""
    first, second = one[0] * other[1], other[0] * one[1]
    return first < second or (first == second and one[2] < other[2])


def row_to_leave(tableau, within, column):
    """Tell the row that is met first when the column's variable grows."""
    best, place = None, None
    for at, variable in enumerate(within):
        here = (tableau[at][-1], tableau[at][column], variable)
        if here[1] > 0 and (best is None or is_sooner(here, best)):
            best, place = here, at
    return place


def exchanged(tableau, bottom, place, column):
    """Tell the tableau in which the row's and the column's variable have changed places.

    Its bottom is the old entry at that place; the division by the old bottom leaves nothing over.
    """
    pivot = tableau[place][column]
    told = []
    for row in tableau:
        entries = [(entry * pivot - row[column] * other) // bottom for entry, other in zip(row, tableau[place])]
        entries[column] = -row[column]
        told.append(entries)
    told[place] = list(tableau[place])
    told[place][column] = bottom
    return told


def best_levels(gains, rows, limits):
    """Tell (levels, prices): of the greatest gain, and a price for each row that shows that it is."""
    many = len(gains)
    tableau = [list(row) + [limit] for row, limit in zip(rows, limits)] + [[-gain for gain in gains] + [0]]
    outside, within = list(range(many)), list(range(many, many + len(rows)))
    bottom = 1
    # By the least variables first no tableau comes twice, so this ends.
    column = column_to_enter(tableau[-1], outside)
    while column is not None:
        place = row_to_leave(tableau, within, column)
        tableau, bottom = exchanged(tableau, bottom, place, column), tableau[place][column]
        entering = outside[column]
        outside[column] = within[place]
        within[place] = entering
        column = column_to_enter(tableau[-1], outside)
    levels = {variable: lowest(row[-1], bottom) for variable, row in zip(within, tableau)}
    prices = {variable: lowest(entry, bottom) for variable, entry in zip(outside, tableau[-1])}
    return (tuple([levels.get(variable, ZERO) for variable in range(many)]),
            tuple([prices.get(variable, ZERO) for variable in range(many, many + len(rows))]))
