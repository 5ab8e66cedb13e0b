"""Pairings, and charges of one to another, looked over."""

from askedpairs.forms import is_number, is_rising_row, is_row_of
from askedpairs.stands import things_of


def is_pairing(web, thing):
    """Tell of anything whether it is a pairing of the web."""
    if not is_rising_row(thing, len(web[1])):
        return False
    things = [part for tie in thing for part in things_of(web, tie)]
    return len(set(things)) == len(things)


def may_be_charged(web, tie, other):
    """Tell whether the tie has a thing in common with the other and is worth at least as much."""
    if not any([thing in things_of(web, other) for thing in things_of(web, tie)]):
        return False
    return web[1][tie][3] >= web[1][other][3]


def charges_hold(web, kept, other, thing):
    """Tell of anything whether it is a row of charges to kept, one for each tie of other."""
    if not is_row_of(thing, len(other)):
        return False
    return all([is_number(charge) and charge in kept and may_be_charged(web, charge, tie)
                for charge, tie in zip(thing, other)])
