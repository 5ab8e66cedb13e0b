"""Sides, and rings that show that there are none, looked over."""

from askedpairs.forms import is_number_within, is_row_of, is_unlike_row

LEAST_OF_RING = 3


def sides_hold(web, thing):
    """Tell of anything whether it is a row of sides, so that each tie has one of both."""
    if not is_row_of(thing, web[0]) or not all([is_number_within(side, 0, 1) for side in thing]):
        return False
    return all([thing[one] != thing[other] for one, other, chance, worth in web[1]])


def are_tied(web, one, other):
    """Tell whether two things have a tie."""
    return any([one in tie[:2] and other in tie[:2] for tie in web[1]])


def ring_holds(web, thing):
    """Tell of anything whether it is a ring of an odd number of things."""
    if not is_unlike_row(thing, web[0]) or len(thing) < LEAST_OF_RING or len(thing) % 2 == 0:
        return False
    return all([are_tied(web, one, other) for one, other in zip(thing, thing[1:] + thing[:1])])
