"""Shares and prices, looked over: what plans may ask, and what none is worth more than."""

from askedpairs.forms import is_from_zero, is_row_from_zero, is_row_of
from askedpairs.fractions import ONE, less, plus, times, total
from askedpairs.worthpaper import gain_of


def bears_shares(web, shares, thing):
    """Tell whether the thing is kept at most once, and asked at most as its patience tells."""
    of_thing = [(share, tie[2]) for share, tie in zip(shares, web[1]) if thing in tie[:2]]
    if less(ONE, total([times(share, chance) for share, chance in of_thing])):
        return False
    return not less((web[2][thing], 1), total([share for share, chance in of_thing]))


def shares_hold(web, thing):
    """Tell of anything whether it is right shares."""
    if not is_row_from_zero(thing, len(web[1])) or any([less(ONE, share) for share in thing]):
        return False
    if less((web[3], 1), total(thing)):
        return False
    return all([bears_shares(web, thing, at) for at in range(web[0])])


def shares_worth(web, shares):
    """Tell the sum of share times chance times worth."""
    return total([times(share, gain_of(tie)) for share, tie in zip(shares, web[1])])


def is_prices_form(web, thing):
    """Tell of anything whether it is (keeping, bearing, asking, once), right or not."""
    if not is_row_of(thing, 4):
        return False
    keeping, bearing, asking, once = thing
    if not is_row_from_zero(keeping, web[0]) or not is_row_from_zero(bearing, web[0]):
        return False
    return is_from_zero(asking) and is_row_from_zero(once, len(web[1]))


def paid_for(web, prices, tie):
    """Tell what the prices of an ask of a tie are all together."""
    keeping, bearing, asking, once = prices
    one, other, chance, worth = web[1][tie]
    kept = times(chance, plus(keeping[one], keeping[other]))
    return total([kept, bearing[one], bearing[other], asking, once[tie]])


def prices_hold(web, thing):
    """Tell of anything whether it is right prices."""
    if not is_prices_form(web, thing):
        return False
    return not any([less(paid_for(web, thing, at), gain_of(tie)) for at, tie in enumerate(web[1])])


def prices_worth(web, prices):
    """Tell the sum of all prices, each as often as the web lets it be asked for."""
    keeping, bearing, asking, once = prices
    borne = [times(price, (patience, 1)) for price, patience in zip(bearing, web[2])]
    return total([total(keeping), total(borne), times(asking, (web[3], 1)), total(once)])
