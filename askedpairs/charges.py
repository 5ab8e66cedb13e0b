"""Charges of the ties of one pairing to those of another."""

from askedpairs.chargepaper import may_be_charged


def charges_of(web, kept, other):
    """Tell a row with a tie of kept for each tie of other, or None, where there is none."""
    # A tie of kept may be charged more than once, so each tie of other takes the first that fits.
    fitting = [[charge for charge in kept if may_be_charged(web, charge, tie)] for tie in other]
    if [] in fitting:
        return None
    return tuple([charges[0] for charges in fitting])
