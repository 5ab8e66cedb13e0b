"""Webs: (things, ties, patience, asks)."""

from askedpairs.forms import is_fraction, is_number_within, is_row_of

MOST_THINGS = 12
MOST_TIES = 16
MOST_BOTTOM = 100
MOST_WORTH = 1000
MOST_PATIENCE = 20
MOST_ASKS = 40


def is_chance(thing):
    """Tell whether it is a fraction from 0 to 1 that a tie may have."""
    if not is_fraction(thing):
        return False
    top, bottom = thing
    return 0 <= top <= bottom <= MOST_BOTTOM


def is_tie_row(thing, things):
    """Tell whether it is (one, other, chance, worth), of so many things."""
    if not is_row_of(thing, 4):
        return False
    one, other, chance, worth = thing
    if not is_number_within(one, 0, things - 1) or not is_number_within(other, one + 1, things - 1):
        return False
    return is_chance(chance) and is_number_within(worth, 0, MOST_WORTH)


def is_ties(thing, things):
    """Tell whether it is a web's row of ties."""
    if not isinstance(thing, tuple) or len(thing) > MOST_TIES:
        return False
    return all([is_tie_row(part, things) for part in thing])


def is_patience(thing, things):
    """Tell whether it is a row of the patience of so many things."""
    if not is_row_of(thing, things):
        return False
    return all([is_number_within(part, 0, MOST_PATIENCE) for part in thing])


def is_web(thing):
    """Tell of anything whether it is a web."""
    if not is_row_of(thing, 4):
        return False
    things, ties, patience, asks = thing
    if not is_number_within(things, 0, MOST_THINGS) or not is_number_within(asks, 0, MOST_ASKS):
        return False
    return is_ties(ties, things) and is_patience(patience, things)
