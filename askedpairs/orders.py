"""Orders: rows of unlike ties, gone through from the beginning."""

from askedpairs.forms import is_unlike_row
from askedpairs.stands import FIRST_STAND, may_ask, stand_behind


def is_order(web, thing):
    """Tell of anything whether it is an order of ties of the web."""
    return is_unlike_row(thing, len(web[1]))


def run_order(web, order, answers):
    """Tell the run of an order by answers."""
    stand = FIRST_STAND
    run = []
    for tie in order:
        if may_ask(web, stand, tie):
            run.append((tie, answers[tie]))
            stand = stand_behind(web, stand, tie, answers[tie])
    return tuple(run)
