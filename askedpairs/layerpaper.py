"""An order's paper, looked over layer by layer: which stands may have come, with their chances."""

from askedpairs.forms import is_fraction, is_row_of
from askedpairs.fractions import ONE, ZERO, one_less, times
from askedpairs.stands import FIRST_STAND, is_stand, may_ask, stand_behind

FIRST_LAYER = ((FIRST_STAND, ONE),)


def stands_next(web, stand, tie):
    """Tell the stands that may come when an order is at the tie, each with the chance that it does."""
    if not may_ask(web, stand, tie):
        return [(stand, ONE)]
    chance = web[1][tie][2]
    return [(stand_behind(web, stand, tie, truth), share)
            for truth, share in ((True, chance), (False, one_less(chance))) if share != ZERO]


def layer_behind(web, layer, tie):
    """Tell the layer behind one tie more."""
    # No stand comes here in two ways: where two runs of an order part, a thing is taken in
    # the one; in the other it can be taken only by a later ask, which the first doesn't make.
    return tuple(sorted([(behind, times(chance, share))
                         for stand, chance in layer for behind, share in stands_next(web, stand, tie)]))


def is_layer_part(web, thing):
    """Tell whether it is (stand, chance)."""
    return is_row_of(thing, 2) and is_stand(web, thing[0]) and is_fraction(thing[1])


def is_layer_form(web, thing):
    """Tell whether it is a row of stands and chances, whichever they are."""
    return isinstance(thing, tuple) and all([is_layer_part(web, part) for part in thing])


def layers_hold(web, order, thing):
    """Tell of anything whether it is the order's paper of layers."""
    if not is_row_of(thing, len(order) + 1):
        return False
    if not all([is_layer_form(web, layer) for layer in thing]) or thing[0] != FIRST_LAYER:
        return False
    return all([layer == layer_behind(web, ahead, tie) for tie, ahead, layer in zip(order, thing, thing[1:])])
