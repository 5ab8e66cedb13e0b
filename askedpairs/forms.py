"""The forms that are asked of anything: numbers, rows, fractions.

Nothing of a thing is reckoned with before its kind is known, so that these
tell True or False of anything.
"""

from askedpairs.fractions import lowest


def is_number(thing):
    """Tell whether it is an int, and neither True nor False."""
    return isinstance(thing, int) and not isinstance(thing, bool)


def is_number_within(thing, low, high):
    """Tell whether it is a number from low to high."""
    return is_number(thing) and low <= thing <= high


def is_row_of(thing, many):
    """Tell whether it is a row of so many parts."""
    return isinstance(thing, tuple) and len(thing) == many


def is_rising_row(thing, many):
    """Tell whether it is a rising row of unlike numbers from 0 to many less 1."""
    if not isinstance(thing, tuple):
        return False
    least = 0
    for part in thing:
        if not is_number_within(part, least, many - 1):
            return False
        least = part + 1
    return True


def is_unlike_row(thing, many):
    """Tell whether it is a row of unlike numbers from 0 to many less 1, in whatever order."""
    if not isinstance(thing, tuple) or not all([is_number_within(part, 0, many - 1) for part in thing]):
        return False
    return len(set(thing)) == len(thing)


def is_fraction(thing):
    """Tell whether it is a fraction, in lowest terms."""
    if not is_row_of(thing, 2):
        return False
    top, bottom = thing
    if not is_number(top) or not is_number(bottom) or bottom < 1:
        return False
    return lowest(top, bottom) == thing


def is_from_zero(thing):
    """Tell whether it is a fraction from 0 on."""
    return is_fraction(thing) and thing[0] >= 0


def is_row_from_zero(thing, many):
    """Tell whether it is a row of so many fractions from 0 on."""
    return is_row_of(thing, many) and all([is_from_zero(part) for part in thing])


def is_fraction_row(thing, many):
    """Tell whether it is a row of so many fractions."""
    return is_row_of(thing, many) and all([is_fraction(part) for part in thing])
