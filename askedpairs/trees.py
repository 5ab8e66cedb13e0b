"""Trees: rows of nodes (tie, yes, no) that go by the answers."""

from askedpairs.forms import is_number, is_number_within, is_row_of
from askedpairs.stands import FIRST_STAND, may_ask, stand_behind

MOST_NODES = 300
END = -1


def is_link(thing, at, many):
    """Tell whether it leads on from node at: to the end, or to a later one of so many."""
    return is_number(thing) and (thing == END or at < thing < many)


def is_node(web, thing, at, many):
    """Tell whether it is a node that may stand at its place of a tree of so many."""
    if not is_row_of(thing, 3):
        return False
    tie, yes, no = thing
    return is_number_within(tie, 0, len(web[1]) - 1) and is_link(yes, at, many) and is_link(no, at, many)


def is_told_once(tree):
    """Tell whether each node but the first is told just once."""
    told = [link for node in tree for link in node[1:] if link != END]
    return sorted(told) == list(range(1, len(tree)))


def is_tree_form(web, thing):
    """Tell of anything whether it is a tree, whatever may be asked at its nodes."""
    if not isinstance(thing, tuple) or len(thing) > MOST_NODES:
        return False
    if not all([is_node(web, node, at, len(thing)) for at, node in enumerate(thing)]):
        return False
    return is_told_once(thing)


def is_tree(web, thing):
    """Tell of anything whether it is a tree of the web."""
    if not is_tree_form(web, thing):
        return False
    return all([may_ask(web, stand, node[0]) for node, stand in zip(thing, stands_of(web, thing))])


def stands_of(web, tree):
    """Tell the row of the stands of a tree's nodes."""
    stands = [FIRST_STAND for node in tree]
    for at, (tie, yes, no) in enumerate(tree):
        # A node is told by an earlier one, so its own stand is known by now.
        for link, truth in ((yes, True), (no, False)):
            if link != END:
                stands[link] = stand_behind(web, stands[at], tie, truth)
    return tuple(stands)


def run_tree(web, tree, answers):
    """Tell the run of a tree by answers."""
    run = []
    at = 0 if len(tree) > 0 else END
    while at != END:
        tie, yes, no = tree[at]
        run.append((tie, answers[tie]))
        at = yes if answers[tie] else no
    return tuple(run)


def tree_by(web, asks):
    """Tell the tree that asks at each stand the tie that asks has for it, and ends where it has none."""
    nodes = []
    ends = [(FIRST_STAND, END, 0)]
    while len(ends) > 0:
        stand, told_by, place = ends.pop()
        if stand in asks:
            tie, at = asks[stand], len(nodes)
            nodes.append([tie, END, END])
            if told_by != END:
                nodes[told_by][place] = at
            for link, truth in ((1, True), (2, False)):
                ends.append((stand_behind(web, stand, tie, truth), at, link))
    return tuple([tuple(node) for node in nodes])
