"""Rows: the coefficients of a polynomial, from the lowest power upwards.

A row that is returned is a tuple whose last coefficient is not zero; the zero polynomial has the empty row.
Polynomials and what decides about them both calculate with rows, so that neither needs the other.
"""

from math import gcd


def trimmed(coefs):
    """Return the row without the zeros behind the last coefficient that is not zero."""
    size = len(coefs)
    while size > 0 and coefs[size - 1] == 0:
        size -= 1
    return tuple(coefs[:size])


def plus(first, second):
    """Return the row of the sum."""
    size = max(len(first), len(second))
    return trimmed([_coef(first, place) + _coef(second, place) for place in range(size)])


def negated(row):
    """Return the row of the negative."""
    return tuple([-coef for coef in row])


def times(first, second):
    """Return the row of the product."""
    return trimmed([_cross_sum(first, second, place) for place in range(len(first) + len(second) - 1)])


def power(row, exponent):
    """Return the row of the power; the power 0 of every row is that of 1."""
    result = (1,)
    square = row
    left = exponent
    while left > 0:
        if left & 1:
            result = times(result, square)
        left = left // 2
        # The last square would be by far the longest one, and nobody needs it.
        if left > 0:
            square = times(square, square)
    return result


def path_row(wins, losses):
    """Return the row of x to the power `wins` times 1 - x to the power `losses`."""
    return tuple([0 for _ in range(wins)]) + power((1, -1), losses)


def quotient(row, divisor):
    """Return the row whose product with `divisor` is `row`, or None if there is no such row of integers."""
    if len(divisor) == 0:
        return None
    size = len(row) - len(divisor) + 1
    found = [0 for _ in range(size)]
    rest = list(row)
    for place in reversed(range(size)):
        coef, over = divmod(rest.pop(), divisor[-1])
        if over != 0:
            return None
        found[place] = coef
        for step, part in enumerate(divisor[:-1]):
            rest[place + step] = rest[place + step] - coef * part
    if any([left != 0 for left in rest]):
        return None
    return trimmed(found)


def derived(row):
    """Return the row of the derivative."""
    return tuple([place * coef for place, coef in enumerate(row)][1:])


def value_at(row, num, den):
    """Return the value at num/den times `den` to the power of the degree."""
    total = 0
    scale = 1
    for coef in row[::-1]:
        total = total * num + coef * scale
        scale = scale * den
    return total


def value_ratio(row, num, den):
    """Return the value at num/den, a ratio, as a tuple in lowest terms."""
    return lowest_terms(value_at(row, num, den), den, len(row) - 1)


def lowest_terms(top, den, exponent):
    """Return `top` divided by `den` to the power `exponent`, 1 if it is not positive, as a tuple in lowest terms.

    To take what is shared out of one factor of the denominator after the other is much faster than to look for the
    common divisor of two numbers with so many digits.
    """
    left = top
    bottom = 1
    for done in range(exponent):
        shared = gcd(left, den)
        if shared == 1:
            return (left, bottom * raised(den, exponent - done))
        left = left // shared
        bottom = bottom * (den // shared)
    return (left, bottom)


def shifted(row, step):
    """Return the list of the coefficients of the polynomial in x that has `row` as its coefficients in x + step."""
    if step == 0:
        return list(row)
    total = []
    for coef in row[::-1]:
        # Products with a step of 1 would take more time than the sums.
        moved = total if step == 1 else [step * low for low in total]
        total = [high + low for high, low in zip([coef] + total, moved + [0])]
    return total


def scaled(row, factor):
    """Return the list of the coefficients times the powers of `factor`, from the power 0 upwards."""
    found = []
    power_of_factor = 1
    for coef in row:
        found.append(coef * power_of_factor)
        power_of_factor = power_of_factor * factor
    return found


def raised(number, exponent):
    """Return the integer to the power `exponent`, and 1 if the exponent is not positive."""
    result = 1
    for _ in range(exponent):
        result = result * number
    return result


def _coef(row, place):
    if place < len(row):
        return row[place]
    return 0


def _cross_sum(first, second, place):
    start = max(0, place + 1 - len(second))
    stop = min(place + 1, len(first))
    return sum([first[at] * second[place - at] for at in range(start, stop)])
