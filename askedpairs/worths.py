"""What a tree is worth, from below and from above."""

from askedpairs.fractions import ONE, ZERO, plus, times
from askedpairs.worthpaper import node_worth, ways_on


def worths_of(web, tree):
    """Tell the tree's paper of worths."""
    worths = [ZERO for node in tree]
    # Links lead to later nodes, so from the last one on all that is asked for is known.
    for at in reversed(range(len(tree))):
        worths[at] = node_worth(web, tree[at], worths)
    return tuple(worths)


def worth_of(web, tree):
    """Tell the tree's worth: that of node 0."""
    return worths_of(web, tree)[0] if len(tree) > 0 else ZERO


def reaches_of(web, tree):
    """Tell the tree's paper of reaches."""
    reaches = [ONE for node in tree]
    for at, node in enumerate(tree):
        for link, chance in ways_on(web, node):
            reaches[link] = times(reaches[at], chance)
    return tuple(reaches)


def asked_shares(web, tree):
    """Tell for each tie of the web the chance that the tree asks it."""
    shares = [ZERO for tie in web[1]]
    for node, reach in zip(tree, reaches_of(web, tree)):
        shares[node[0]] = plus(shares[node[0]], reach)
    return tuple(shares)
