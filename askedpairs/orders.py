"""Orders: rows of unlike ties, gone through from the beginning."""

from askedpairs.forms import is_number_within
from askedpairs.stands import FIRST_STAND, may_ask, stand_behind


def is_order(web, thing):
    """Tell of anything whether it is an order of ties of the web."""
    if not isinstance(thing, tuple):
        return False
    if not all([is_number_within(part, 0, len(web[1]) - 1) for part in thing]):
        return False
    return len(set(thing)) == len(thing)


def run_order(web, order, answers):
    """Tell the run of an order by answers."""
    stand = FIRST_STAND
    run = []
    for tie in order:
        if may_ask(web, stand, tie):
            run.append((tie, answers[tie]))
            stand = stand_behind(web, stand, tie, answers[tie])
    return tuple(run)
