"""Webs led on: a chance raised, ties left out, two webs side by side."""

from askedpairs.errors import NoRise, TooMany
from askedpairs.fractions import less
from askedpairs.webs import is_web


def raised(web, tie, chance):
    """Tell the web in which the tie has another chance, no less than its own."""
    things, ties, patience, asks = web
    one, other, own, worth = ties[tie]
    if less(chance, own):
        raise NoRise("the chance is less than the tie's own")
    return (things, ties[:tie] + ((one, other, chance, worth),) + ties[tie + 1:], patience, asks)


def left_out(web, ties):
    """Tell the web without some ties."""
    kept = tuple([tie for at, tie in enumerate(web[1]) if at not in ties])
    return (web[0], kept) + web[2:]


def beside(one, other):
    """Tell the web of two, the second behind the first."""
    moved = tuple([(low + one[0], high + one[0], chance, worth) for low, high, chance, worth in other[1]])
    web = (one[0] + other[0], one[1] + moved, one[2] + other[2], one[3] + other[3])
    if not is_web(web):
        raise TooMany("there are too many things, ties or asks for one web")
    return web


def order_beside(one, order, other_order):
    """Tell the order that goes through one of the first web, then through one of the second."""
    return order + tuple([tie + len(one[1]) for tie in other_order])
