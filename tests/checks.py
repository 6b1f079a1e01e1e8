"""What the document says of sign rows, certificates, maps and the like, reckoned anew and without the package."""

from fractions import Fraction
from math import lcm


def fraction(ratio):
    return Fraction(ratio[0], ratio[1])


def pair(value):
    value = Fraction(value)
    return (value.numerator, value.denominator)


def is_ratio(value):
    return type(value) is tuple and len(value) == 2 and value == pair(Fraction(*value))


def value_of(coefs, at):
    """The value at a Fraction."""
    total = Fraction(0)
    for coef in reversed(coefs):
        total = total * at + coef
    return total


def product(first, second):
    total = [0] * (len(first) + len(second) - 1) if first and second else []
    for i, a in enumerate(first):
        for j, b in enumerate(second):
            total[i + j] += a * b
    return total


def sign_row_by_hand(coefs, low, high):
    """The sign row as point 10 defines it: the sum of ci (a + b x)^i (d + d x)^(n - i)."""
    den = lcm(low[1], high[1])
    a = low[0] * den // low[1]
    b = high[0] * den // high[1]
    size = len(coefs)
    total = [0] * size
    ups = [[1]]
    downs = [[1]]
    for _ in range(size - 1):
        ups.append(product(ups[-1], [a, b]))
        downs.append(product(downs[-1], [den, den]))
    for power, coef in enumerate(coefs):
        for place, entry in enumerate(product(ups[power], downs[size - 1 - power])):
            total[place] += coef * entry
    return total


def changes_by_hand(row):
    signs = [entry > 0 for entry in row if entry != 0]
    return sum(a != b for a, b in zip(signs, signs[1:]))


def is_valid(coefs, low, high, certificate):
    """Whether the certificate is valid, as point 13 says, for the polynomial with these coefficients."""
    rest, root, cuts = certificate
    if product(product(list(rest.coefs), list(root.coefs)), list(root.coefs)) != list(coefs):
        return False
    if len(cuts) < 2 or cuts[0] != low or cuts[-1] != high:
        return False
    for left, right in zip(cuts, cuts[1:]):
        if fraction(left) >= fraction(right) or any(e < 0 for e in sign_row_by_hand(rest.coefs, left, right)):
            return False
    return True


def has_square(coefs):
    """Whether the square of a polynomial of degree 1 or more divides the polynomial, by remainders of fractions."""
    upper = [Fraction(coef) for coef in coefs]
    lower = [place * coef for place, coef in enumerate(upper)][1:]
    while lower:
        upper, lower = lower, remainder(upper, lower)
    return len(upper) > 1


def remainder(upper, lower):
    upper = list(upper)
    while len(upper) >= len(lower):
        factor = upper[-1] / lower[-1]
        gap = len(upper) - len(lower)
        upper = [coef - factor * lower[at - gap] if at >= gap else coef for at, coef in enumerate(upper)][:-1]
        while upper and upper[-1] == 0:
            upper.pop()
    return upper


def sturm_count(coefs, low, high):
    """The number of roots strictly between two Fractions of a polynomial without repeated factors, by Sturm."""
    chain = [[Fraction(coef) for coef in coefs]]
    chain.append([place * coef for place, coef in enumerate(chain[0])][1:])
    while chain[-1]:
        chain.append([-coef for coef in remainder(chain[-2], chain[-1])])
    chain.pop()
    counts = [changes_by_hand([value_of(row, at) for row in chain]) for at in (low, high)]
    # Sturm counts the roots above `low` up to `high`, also where `high` is one.
    return counts[0] - counts[1] - (value_of(coefs, high) == 0)
