"""Ratios: tuples of a numerator and a denominator, in lowest terms, the denominator at least 1."""

from math import gcd

from lookstop.errors import InvalidRatio

ZERO = (0, 1)
ONE = (1, 1)


def ratio(num, den=1):
    """Return the ratio num/den; `den` may be negative."""
    if den == 0:
        raise InvalidRatio((num, den))
    divisor = gcd(num, den)
    if den < 0:
        divisor = -divisor
    return (num // divisor, den // divisor)


def add(*terms):
    """Return the sum of any number of ratios."""
    total = ZERO
    for num, den in terms:
        total = ratio(total[0] * den + num * total[1], total[1] * den)
    return total


def multiply(*factors):
    """Return the product of any number of ratios."""
    total = ONE
    for num, den in factors:
        total = ratio(total[0] * num, total[1] * den)
    return total


def subtract(a, b):
    """Return the difference a - b."""
    return ratio(a[0] * b[1] - b[0] * a[1], a[1] * b[1])


def divide(a, b):
    """Return the quotient of a and b, which is not zero."""
    if b[0] == 0:
        raise InvalidRatio(b)
    return ratio(a[0] * b[1], a[1] * b[0])


def compare(a, b):
    """Return -1, 0 or 1 if a is less than, equal to or greater than b."""
    left = a[0] * b[1]
    right = b[0] * a[1]
    if left < right:
        return -1
    if left > right:
        return 1
    return 0


def midpoint(a, b):
    """Return half of the sum of a and b."""
    return ratio(a[0] * b[1] + b[0] * a[1], 2 * a[1] * b[1])


def is_share(value):
    """Tell whether a tuple of two integers is a ratio from 0 to 1."""
    num, den = value
    return den >= 1 and 0 <= num <= den and gcd(num, den) == 1


def is_integer(value):
    """Tell whether a value is an integer; True and False are none."""
    return isinstance(value, int) and not isinstance(value, bool)
