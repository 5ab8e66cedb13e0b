"""Papers of a tree, looked over node by node: its worths and its reaches."""

from askedpairs.forms import is_fraction_row
from askedpairs.fractions import ONE, ZERO, one_less, plus, times
from askedpairs.trees import END


def gain_of(tie):
    """Tell the chance times the worth of a tie (one, other, chance, worth)."""
    return times(tie[2], (tie[3], 1))


def ask_worth(tie, yes, no):
    """Tell what an ask of a tie (one, other, chance, worth) is worth, by what yes and no are worth."""
    chance, worth = tie[2:]
    return plus(times(chance, plus((worth, 1), yes)), times(one_less(chance), no))


def link_worth(worths, link):
    """Tell what is told of the node that a link leads to."""
    return ZERO if link == END else worths[link]


def node_worth(web, node, worths):
    """Tell what a node is worth, by what is told of the nodes behind it."""
    tie, yes, no = node
    return ask_worth(web[1][tie], link_worth(worths, yes), link_worth(worths, no))


def ways_on(web, node):
    """Tell the nodes that follow a node, each with the chance that it does."""
    tie, yes, no = node
    chance = web[1][tie][2]
    return [(link, share) for link, share in ((yes, chance), (no, one_less(chance))) if link != END]


def worths_hold(web, tree, thing):
    """Tell of anything whether it is the tree's paper of worths."""
    if not is_fraction_row(thing, len(tree)):
        return False
    return all([worth == node_worth(web, node, thing) for node, worth in zip(tree, thing)])


def reaches_hold(web, tree, thing):
    """Tell of anything whether it is the tree's paper of reaches."""
    if not is_fraction_row(thing, len(tree)):
        return False
    if len(tree) > 0 and thing[0] != ONE:
        return False
    return all([thing[link] == times(reach, chance)
                for node, reach in zip(tree, thing) for link, chance in ways_on(web, node)])
