"""What no plan can be worth more than, and orders by the shares that show it."""

from askedpairs.errors import refuse_above
from askedpairs.fractions import greatest_first, times
from askedpairs.linear import best_levels
from askedpairs.pricepaper import shares_worth

MOST_TIES_OF_BOUND = 10


def rows_of(web):
    """Tell the rows of the sums that are bounded, with a number for each tie.

    A tie's level is its share over the bottom of its chance, so that all numbers are whole.
    """
    things, ties = web[:2]
    keeping = [[tie[2][0] if thing in tie[:2] else 0 for tie in ties] for thing in range(things)]
    bearing = [[tie[2][1] if thing in tie[:2] else 0 for tie in ties] for thing in range(things)]
    asking = [tie[2][1] for tie in ties]
    once = [[bottom if at == place else 0 for at, bottom in enumerate(asking)] for place in range(len(ties))]
    return keeping + bearing + [asking] + once


def limits_of(web):
    """Tell what each of these sums is at most."""
    things, ties, patience, asks = web
    return [1] * things + list(patience) + [asks] + [1] * len(ties)


def as_prices(web, row):
    """Tell the prices (keeping, bearing, asking, once) of a row with one for each sum."""
    things = web[0]
    return (row[:things], row[things:2 * things], row[2 * things], row[2 * things + 1:])


def bound(web):
    """Tell (worth, shares, prices): right shares and right prices that are both worth that."""
    refuse_above(len(web[1]), MOST_TIES_OF_BOUND)
    gains = [tie[2][0] * tie[3] for tie in web[1]]
    levels, prices = best_levels(gains, rows_of(web), limits_of(web))
    shares = tuple([times(level, (tie[2][1], 1)) for level, tie in zip(levels, web[1])])
    return (shares_worth(web, shares), shares, as_prices(web, prices))


def by_shares(web, shares):
    """Tell the order of all ties whose share is above 0, the greatest share first."""
    return tuple([tie for tie in greatest_first(shares) if shares[tie][0] > 0])


def by_rolls(web, shares, rolls):
    """Tell the order by shares of those ties alone whose roll is below the top of the share."""
    return tuple([tie for tie in greatest_first(shares) if rolls[tie] < shares[tie][0]])
