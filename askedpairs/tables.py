"""What the best plan is worth, and a table that tells it."""

from askedpairs.errors import refuse_above
from askedpairs.fractions import ZERO, less
from askedpairs.stands import FIRST_STAND
from askedpairs.tablepaper import asks_at, both_behind, told_worth
from askedpairs.trees import END, tree_by

MOST_TIES_OF_TABLE = 7


def stands_by_asks(web):
    """Tell all stands that may come, whatever the chances: a row for each number of asks made."""
    rows = []
    stands = [FIRST_STAND]
    while len(stands) > 0:
        rows.append(stands)
        stands = sorted(set([behind for stand in stands for tie in asks_at(web, stand)
                             for behind in both_behind(web, stand, tie)]))
    return rows


def best_ask(web, worths, stand):
    """Tell (worth, ask) of a stand by the worths of the stands behind it."""
    worth, ask = ZERO, END
    for tie in asks_at(web, stand):
        told = told_worth(web, worths, stand, tie)
        if less(worth, told):
            worth, ask = told, tie
    return (worth, ask)


def table_of(web):
    """Tell a table of the web."""
    refuse_above(len(web[1]), MOST_TIES_OF_TABLE)
    worths = {}
    table = []
    # Behind an ask one more is made, so from the most asks on all that is needed is known.
    for stands in reversed(stands_by_asks(web)):
        for stand in stands:
            worth, ask = best_ask(web, worths, stand)
            worths[stand] = worth
            table.append((stand, worth, ask))
    return tuple(sorted(table))


def best_worth(web):
    """Tell the worth of the best plan."""
    # The stand ahead of all is the least.
    return table_of(web)[0][1]


def best_tree(web, table):
    """Tell a tree that asks at each stand what the table tells."""
    return tree_by(web, {stand: ask for stand, worth, ask in table if ask != END})
