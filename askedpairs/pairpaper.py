"""Heaviest pairings, looked over by the prices that show that none is worth more."""

from askedpairs.chargepaper import is_pairing
from askedpairs.forms import is_number, is_row_of


def is_number_row(thing, many):
    """Tell whether it is a row of so many numbers from 0 on."""
    return is_row_of(thing, many) and all([is_number(part) and part >= 0 for part in thing])


def heaviest_holds(web, thing):
    """Tell of anything whether it is (pairing, prices), the prices enough for each tie and worth the pairing."""
    if not is_row_of(thing, 2):
        return False
    pairing, prices = thing
    if not is_pairing(web, pairing) or not is_number_row(prices, web[0]):
        return False
    if any([prices[one] + prices[other] < worth for one, other, chance, worth in web[1]]):
        return False
    return sum(prices) == sum([web[1][tie][3] for tie in pairing])
