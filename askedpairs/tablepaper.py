"""Tables: rows (stand, worth, ask), looked over row by row."""

from askedpairs.forms import is_from_zero, is_number, is_row_of
from askedpairs.fractions import ZERO, less
from askedpairs.stands import FIRST_STAND, is_stand, may_ask, stand_behind
from askedpairs.trees import END
from askedpairs.worthpaper import ask_worth


def asks_at(web, stand):
    """Tell the ties that may be asked at the stand, rising."""
    return [tie for tie in range(len(web[1])) if may_ask(web, stand, tie)]


def both_behind(web, stand, tie):
    """Tell the stands behind yes and behind no."""
    return [stand_behind(web, stand, tie, truth) for truth in (True, False)]


def told_worth(web, worths, stand, tie):
    """Tell what an ask is worth by the worths that are told of the stands behind it."""
    yes, no = both_behind(web, stand, tie)
    return ask_worth(web[1][tie], worths[yes], worths[no])


def is_table_row(web, thing):
    """Tell whether it is (stand, worth, ask), the ask any number."""
    if not is_row_of(thing, 3):
        return False
    stand, worth, ask = thing
    return is_stand(web, stand) and is_from_zero(worth) and is_number(ask)


def is_table_form(web, thing):
    """Tell of anything whether it is a row of table rows, their stands rising."""
    if not isinstance(thing, tuple) or not all([is_table_row(web, row) for row in thing]):
        return False
    return all([row[0] < later[0] for row, later in zip(thing, thing[1:])])


def is_closed(web, worths):
    """Tell whether the first stand is there, and both stands behind each ask."""
    if FIRST_STAND not in worths:
        return False
    return all([behind in worths for stand in worths for tie in asks_at(web, stand)
                for behind in both_behind(web, stand, tie)])


def is_row_right(web, worths, row):
    """Tell whether no ask is worth more than the row tells, and the told one just that."""
    stand, worth, ask = row
    told = {tie: told_worth(web, worths, stand, tie) for tie in asks_at(web, stand)}
    if any([less(worth, told[tie]) for tie in told]):
        return False
    if ask == END:
        return worth == ZERO
    return ask in told and told[ask] == worth


def table_holds(web, thing):
    """Tell of anything whether it is a table of the web."""
    if not is_table_form(web, thing):
        return False
    worths = {stand: worth for stand, worth, ask in thing}
    return is_closed(web, worths) and all([is_row_right(web, worths, row) for row in thing])
