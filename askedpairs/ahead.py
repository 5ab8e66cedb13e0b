"""What is told ahead: the best order, and what one could keep who knew all answers."""

from askedpairs.answering import all_answers, chance_of
from askedpairs.errors import refuse_above
from askedpairs.fractions import ONE, ZERO, less, lowest, times, total
from askedpairs.layers import order_worth
from askedpairs.tables import best_worth

MOST_TIES_FOR_ORDER = 5
MOST_TIES_FOR_SEER = 8


def whole_orders(many):
    """Tell all orders that have each of so many ties."""
    orders = [()]
    for at in range(many):
        orders = [order + (tie,) for order in orders for tie in range(many) if tie not in order]
    return orders


def best_order(web):
    """Tell (worth, order) of an order of the greatest worth."""
    refuse_above(len(web[1]), MOST_TIES_FOR_ORDER)
    # A tie put behind an order never makes it worth less, so the orders of all ties are enough.
    orders = whole_orders(len(web[1]))
    best = (order_worth(web, orders[0]), orders[0])
    for order in orders[1:]:
        worth = order_worth(web, order)
        if less(best[0], worth):
            best = (worth, order)
    return best


def loss(web):
    """Tell the best order's worth over that of the best plan."""
    worth, order = best_order(web)
    best = best_worth(web)
    if best == ZERO:
        return ONE
    return lowest(worth[0] * best[1], worth[1] * best[0])


def heaviest_worth(web, answers):
    """Tell the worth of the heaviest pairing of the ties that say yes."""
    pairings = [((), 0)]
    for one, other, chance, worth in [tie for tie, truth in zip(web[1], answers) if truth]:
        pairings = pairings + [(taken + (one, other), kept + worth) for taken, kept in pairings
                               if one not in taken and other not in taken]
    return max([kept for taken, kept in pairings])


def seer(web):
    """Tell the average worth of the heaviest pairing of the ties that say yes."""
    refuse_above(len(web[1]), MOST_TIES_FOR_SEER)
    return total([times(chance_of(web, answers), (heaviest_worth(web, answers), 1))
                  for answers in all_answers(len(web[1]))])
