"""The heaviest pairing of a web of two sides."""

from askedpairs.errors import NotTwoSided
from askedpairs.fractions import ONE
from askedpairs.linear import best_levels
from askedpairs.sides import sides


def heaviest(web):
    """Tell (pairing, prices): a heaviest pairing, and a number for each thing that shows that it is."""
    if sides(web)[0] == "ring":
        raise NotTwoSided("the web has a ring of an odd number of things")
    worths = [tie[3] for tie in web[1]]
    rows = [[1 if thing in tie[:2] else 0 for tie in web[1]] for thing in range(web[0])]
    # Where there are two sides, each square part of these rows has determinant 0, 1 or -1,
    # so the levels and the prices that the linear program ends with are whole.
    levels, prices = best_levels(worths, rows, [1] * web[0])
    pairing = tuple([tie for tie, level in enumerate(levels) if level == ONE])
    return (pairing, tuple([price[0] for price in prices]))
