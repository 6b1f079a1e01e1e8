"""Common divisors of rows, and squares that divide a row."""

from math import gcd

from lookstop.rows import derived, quotient, times, trimmed, value_at

PRIME = 2305843009213693951


def primitive(row):
    """Return the row divided so that no common divisor is left and the last coefficient is positive."""
    if len(row) == 0:
        return ()
    shared = 0
    for coef in row:
        shared = gcd(shared, coef)
    if row[-1] < 0:
        shared = -shared
    return tuple([coef // shared for coef in row])


def common_divisor(first, second):
    """Return the primitive greatest common divisor of two rows that are not empty.

    The values of both rows at one great integer, the base, have a greatest common divisor. Written in that base
    it shows the row looked for, perhaps times an integer that divides both values by chance.

    What is found is right if it divides both rows. Otherwise a factor of degree 1 or more would be missing, and
    its value at the base would divide that integer, which is at most half of the base. But the roots of the
    factor are roots of `one`, less than half of the base, so its value is more than half of the base.

    The integer divides the resultant of what the rows do not share, so the loop ends when the base is great enough.
    """
    one = primitive(first)
    other = primitive(second)
    if share_nothing(one, other):
        return (1,)
    base = 2 * sum([abs(coef) for coef in one]) + 2
    while True:
        shared = gcd(value_at(one, base, 1), value_at(other, base, 1))
        found = primitive(_digits(shared, base))
        if quotient(one, found) is not None and quotient(other, found) is not None:
            return found
        base = base * base


def share_nothing(first, second):
    """Tell whether two rows have no common divisor of degree 1 or more, as far as their remainders by a prime show.

    Most pairs of rows have none, and with remainders this takes little time however many digits there are. A common
    divisor is one of the rows of remainders, too, and if the prime does not divide the last coefficient of `first`,
    its degree stays. So True is right. False may be wrong.
    """
    if first[-1] % PRIME == 0:
        return False
    upper = trimmed([coef % PRIME for coef in first])
    lower = trimmed([coef % PRIME for coef in second])
    while len(lower) > 0:
        while len(upper) >= len(lower):
            below = [0 for _ in range(len(upper) - len(lower))] + list(lower)
            upper = trimmed([(coef * lower[-1] - part * upper[-1]) % PRIME for coef, part in zip(upper, below)])
        upper, lower = lower, upper
    return len(upper) == 1


def split_row(row):
    """Return the rows (rest, root): `row` is rest * root * root, and no square divides `rest`.

    With a1, a2, .. the factors that divide the row once, twice, .., each round of the loop takes one of each
    from those that are left. What is taken in the second, fourth, .. round makes up the root.
    """
    if len(row) == 0:
        return ((), (1,))
    root = (1,)
    upper = primitive(row)
    even = False
    while len(upper) > 1:
        lower = common_divisor(upper, derived(upper))
        if even:
            root = times(root, quotient(upper, lower))
        upper = lower
        even = not even
    return (quotient(row, times(root, root)), root)


def _digits(number, base):
    """Return the row with this value at `base`, whose coefficients are at most half of the base."""
    row = []
    left = number
    while left != 0:
        digit = left % base
        if 2 * digit > base:
            digit = digit - base
        row.append(digit)
        left = (left - digit) // base
    return trimmed(row)
