"""Fractions: tuples (top, bottom) in lowest terms, with the bottom above 0."""

from wallspace.errors import NoNumber


def divisor(one, other):
    """Give the greatest whole number that divides both; of 0 and 0 it is 0."""
    while other != 0:
        rest = one % other
        one = other
        other = rest
    return abs(one)


def divisor_of_all(numbers):
    """Give the greatest whole number that divides all; where all are 0 it is 0."""
    shared = 0
    for number in numbers:
        shared = divisor(shared, number)
    return shared


def ratio(top, bottom):
    """Give the fraction of two whole numbers; a bottom of 0 is refused."""
    if bottom == 0:
        raise NoNumber("nothing is divided by 0")
    shared = divisor(top, bottom)
    if bottom < 0:
        shared = -shared
    return (top // shared, bottom // shared)


def plus(one, other):
    """Give the sum of two fractions."""
    return ratio(one[0] * other[1] + other[0] * one[1], one[1] * other[1])


def minus(one, other):
    """Give the first fraction less the second."""
    return ratio(one[0] * other[1] - other[0] * one[1], one[1] * other[1])


def times(one, other):
    """Give the product of two fractions."""
    return ratio(one[0] * other[0], one[1] * other[1])


def over(one, other):
    """Give the first fraction divided by the second; (0, 1) as the second is refused."""
    return ratio(one[0] * other[1], one[1] * other[0])


def below(one, other):
    """Tell whether the first fraction is less than the second."""
    # Both bottoms are above 0, so multiplying by them keeps the order.
    return one[0] * other[1] < other[0] * one[1]
