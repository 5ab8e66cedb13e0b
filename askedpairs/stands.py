"""Stands: (asked, taken), rising rows of ties and of things."""

from askedpairs.forms import is_rising_row, is_row_of

FIRST_STAND = ((), ())


def things_of(web, tie):
    """Tell both things of a tie."""
    return web[1][tie][:2]


def many_asks(web, asked, thing):
    """Tell how many ties of asked have the thing."""
    return len([tie for tie in asked if thing in things_of(web, tie)])


def bears_one_more(web, stand, thing):
    """Tell whether the thing isn't taken and has patience left."""
    asked, taken = stand
    return thing not in taken and many_asks(web, asked, thing) < web[2][thing]


def may_ask(web, stand, tie):
    """Tell whether the tie may be asked at the stand."""
    asked = stand[0]
    if tie in asked or len(asked) >= web[3]:
        return False
    return all([bears_one_more(web, stand, thing) for thing in things_of(web, tie)])


def stand_behind(web, stand, tie, truth):
    """Tell the stand behind an ask of a tie that may be asked, and its answer."""
    asked, taken = stand
    if truth:
        taken = tuple(sorted(taken + things_of(web, tie)))
    return (tuple(sorted(asked + (tie,))), taken)


def keeps_bounds(web, asked):
    """Tell whether no thing is asked above its patience, and no more than the asks in all."""
    if len(asked) > web[3]:
        return False
    return all([many_asks(web, asked, thing) <= web[2][thing] for thing in range(web[0])])


def is_stand(web, thing):
    """Tell of anything whether it is a stand of the web."""
    if not is_row_of(thing, 2):
        return False
    asked, taken = thing
    if not is_rising_row(asked, len(web[1])) or not is_rising_row(taken, web[0]):
        return False
    if not keeps_bounds(web, asked) or len(taken) % 2 != 0:
        return False
    return all([many_asks(web, asked, part) > 0 for part in taken])
