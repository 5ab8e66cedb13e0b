"""Orders of all ties by a measure of each, the greatest first."""

from askedpairs.fractions import greatest_first
from askedpairs.stands import keeps_bounds
from askedpairs.worthpaper import gain_of


def by_chance(web):
    """Tell the order of all ties by their chances."""
    return tuple(greatest_first([tie[2] for tie in web[1]]))


def by_worth(web):
    """Tell the order of all ties by their worths."""
    return tuple(greatest_first([(tie[3], 1) for tie in web[1]]))


def by_both(web):
    """Tell the order of all ties by the product of chance and worth."""
    return tuple(greatest_first([gain_of(tie) for tie in web[1]]))


def is_enough(web):
    """Tell whether all ties could be asked, patience and asks being what they are."""
    return keeps_bounds(web, list(range(len(web[1]))))
