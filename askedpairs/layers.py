"""Orders of few ties: their layers, what they are worth, and their trees."""

from askedpairs.errors import refuse_above
from askedpairs.fractions import times, total
from askedpairs.layerpaper import FIRST_LAYER, layer_behind
from askedpairs.stands import FIRST_STAND, may_ask, stand_behind
from askedpairs.trees import tree_by
from askedpairs.worthpaper import gain_of

MOST_TIES_OF_ORDER = 8


def layers_of(web, order):
    """Tell the order's paper of layers."""
    refuse_above(len(order), MOST_TIES_OF_ORDER)
    layers = [FIRST_LAYER]
    for tie in order:
        layers.append(layer_behind(web, layers[-1], tie))
    return tuple(layers)


def order_worth(web, order):
    """Tell the order's worth, by its layers."""
    return total([times(chance, gain_of(web[1][tie])) for tie, layer in zip(order, layers_of(web, order))
                  for stand, chance in layer if may_ask(web, stand, tie)])


def asks_by_stand(web, order):
    """Tell by its stand each ask that the order may make, whatever the chances."""
    asks = {}
    stands = [FIRST_STAND]
    for tie in order:
        asking = [stand for stand in stands if may_ask(web, stand, tie)]
        for stand in asking:
            asks[stand] = tie
        stands = [stand for stand in stands if stand not in asks]
        stands.extend([stand_behind(web, stand, tie, truth) for stand in asking for truth in (True, False)])
    return asks


def tree_of(web, order):
    """Tell a tree that asks what the order asks at each row of answers."""
    refuse_above(len(order), MOST_TIES_OF_ORDER)
    return tree_by(web, asks_by_stand(web, order))
