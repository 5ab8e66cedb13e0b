"""Tables: rows (stand, worth, ask), looked over row by row.

What may come of an ask is told by its ways: a row of (share, worth kept, stand
behind), one for each answer that may come.
"""

from askedpairs.forms import is_from_zero, is_number, is_row_of
from askedpairs.fractions import ZERO, less, one_less, plus, times, total
from askedpairs.stands import FIRST_STAND, is_stand, may_ask, stand_behind
from askedpairs.trees import END


def asks_at(web, stand):
    """Tell the ties that may be asked at the stand, rising."""
    return [tie for tie in range(len(web[1])) if may_ask(web, stand, tie)]


def both_ways(web, stand, tie):
    """Tell the ways behind yes and behind no, whatever the chance."""
    chance, worth = web[1][tie][2:]
    return ((chance, worth, stand_behind(web, stand, tie, True)),
            (one_less(chance), 0, stand_behind(web, stand, tie, False)))


def ways_at(web, stand):
    """Tell by each tie that may be asked at the stand its ways."""
    return {tie: both_ways(web, stand, tie) for tie in asks_at(web, stand)}


def ways_worth(worths, ways):
    """Tell what an ask is worth by the worths that are told of the stands behind it."""
    return total([times(share, plus((kept, 1), worths[behind])) for share, kept, behind in ways])


def is_table_row(thing):
    """Tell whether it is (stand, worth, ask), the stand anything, the ask any number."""
    return is_row_of(thing, 3) and is_from_zero(thing[1]) and is_number(thing[2])


def is_table_form(thing):
    """Tell of anything whether it is a row of table rows, whatever their stands."""
    return isinstance(thing, tuple) and all([is_table_row(row) for row in thing])


def is_row_right(worths, ways, row):
    """Tell whether no ask is worth more than the row tells, and the told one just that."""
    stand, worth, ask = row
    told = {tie: ways_worth(worths, ways[tie]) for tie in ways}
    if any([less(worth, told[tie]) for tie in told]):
        return False
    if ask == END:
        return worth == ZERO
    return ask in told and told[ask] == worth


def is_table_by(first, table, ways):
    """Tell whether the rows, whose stands are right, are a table from the first stand on.

    Of each stand of the table ways has the asks that may be made there.
    """
    worths = {stand: worth for stand, worth, ask in table}
    if first not in worths or not all([row[0] < later[0] for row, later in zip(table, table[1:])]):
        return False
    if not all([behind in worths for stand in ways for tie in ways[stand] for share, kept, behind in ways[stand][tie]]):
        return False
    return all([is_row_right(worths, ways[row[0]], row) for row in table])


def table_holds(web, thing):
    """Tell of anything whether it is a table of the web."""
    if not is_table_form(thing) or not all([is_stand(web, row[0]) for row in thing]):
        return False
    return is_table_by(FIRST_STAND, thing, {row[0]: ways_at(web, row[0]) for row in thing})
