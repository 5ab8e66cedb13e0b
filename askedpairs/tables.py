"""What the best plan is worth, and a table that tells it."""

from askedpairs.errors import refuse_above
from askedpairs.fractions import ZERO, less
from askedpairs.stands import FIRST_STAND
from askedpairs.tablepaper import ways_at, ways_worth
from askedpairs.trees import END, tree_by

MOST_TIES_OF_TABLE = 7


def layers_by_asks(first, ways_here):
    """Tell all stands that may come, each with the ways of its asks: a dict for each number of asks made."""
    layers = []
    stands = [first]
    while len(stands) > 0:
        layer = {stand: ways_here(stand) for stand in stands}
        layers.append(layer)
        stands = sorted(set([behind for stand in layer for tie in layer[stand]
                             for share, kept, behind in layer[stand][tie]]))
    return layers


def best_ask(worths, ways):
    """Tell (worth, ask) of a stand by the ways of its asks and the worths of the stands behind them."""
    worth, ask = ZERO, END
    for tie in ways:
        told = ways_worth(worths, ways[tie])
        if less(worth, told):
            worth, ask = told, tie
    return (worth, ask)


def table_by(first, ways_here):
    """Tell a table from the first stand on; ways_here tells of a stand the ways of the asks that may be made."""
    worths = {}
    table = []
    # Behind an ask one more is made, so from the most asks on all that is needed is known.
    for layer in reversed(layers_by_asks(first, ways_here)):
        for stand in layer:
            worth, ask = best_ask(worths, layer[stand])
            worths[stand] = worth
            table.append((stand, worth, ask))
    return tuple(sorted(table))


def table_of(web):
    """Tell a table of the web."""
    refuse_above(len(web[1]), MOST_TIES_OF_TABLE)
    return table_by(FIRST_STAND, lambda stand: ways_at(web, stand))


def best_worth(web):
    """Tell the worth of the best plan."""
    # The stand ahead of all is the least.
    return table_of(web)[0][1]


def best_tree(web, table):
    """Tell a tree that asks at each stand what the table tells."""
    return tree_by(web, {stand: ask for stand, worth, ask in table if ask != END})
