"""Fractions: (top, bottom), ints in lowest terms, the bottom from 1 on."""

ZERO = (0, 1)
ONE = (1, 1)


def common_divisor(one, other):
    """Tell the greatest common divisor of two ints, from 0 on."""
    while other != 0:
        one, other = other, one % other
    return abs(one)


def lowest(top, bottom):
    """Tell the fraction of two ints, the second not 0."""
    divisor = common_divisor(top, bottom)
    if bottom < 0:
        # By a divisor below 0 the bottom's sign goes to the top.
        divisor = -divisor
    return (top // divisor, bottom // divisor)


def plus(one, other):
    """Tell the sum of two fractions."""
    return lowest(one[0] * other[1] + other[0] * one[1], one[1] * other[1])


def times(one, other):
    """Tell the product of two fractions."""
    return lowest(one[0] * other[0], one[1] * other[1])


def less(one, other):
    """Tell whether the first fraction is less than the second."""
    return one[0] * other[1] < other[0] * one[1]


def one_less(chance):
    """Tell one less the chance."""
    return lowest(chance[1] - chance[0], chance[1])


def total(row):
    """Tell the sum of a row of fractions."""
    amount = ZERO
    for part in row:
        amount = plus(amount, part)
    return amount


def greatest_first(row):
    """Tell the places of a row of fractions, the greatest first, of alike ones the lesser place."""
    common = 1
    for part in row:
        common = common * part[1]
    # Over one common bottom the tops alone tell which is greater.
    tops = [(-part[0] * (common // part[1]), at) for at, part in enumerate(row)]
    return [at for top, at in sorted(tops)]
