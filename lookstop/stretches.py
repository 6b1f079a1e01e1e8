"""Stretches between two ratios: points on them, and the sign rows of polynomials there.

The polynomials are given by their rows, so that class Poly itself can be decided about by what stands here.
"""

from math import lcm

from lookstop.errors import InvalidStretch
from lookstop.ratios import compare, ratio
from lookstop.rows import scaled, shifted


def check_stretch(low, high):
    """Raise InvalidStretch if `low` is not less than `high`."""
    if compare(low, high) >= 0:
        raise InvalidStretch(low, high)


def point_on(low, high, steps, places):
    """Return the ratio that lies `steps` of 2^places equal steps on the way from `low` to `high`."""
    left = low[0] * high[1]
    right = high[0] * low[1]
    return ratio((left << places) + (right - left) * steps, (low[1] * high[1]) << places)


def signs_on(row, low, high):
    """Return the sign row of the polynomial with this row.

    With s for x / (1 + x), a + bx is (a + (b - a)s)(1 + x). So the row is first written in s, by a shift to `low`
    and a change of scale. Then it is brought into powers of x.
    """
    size = lcm(low[1], high[1])
    start = low[0] * (size // low[1])
    width = high[0] * (size // high[1]) - start
    whole = scaled(row[::-1], size)[::-1]
    return unit_signs(scaled(shifted(whole, start), width))


def unit_signs(row):
    """Return the sign row, on the stretch from 0 to 1, of the polynomial with this row.

    Read backwards, the row is one in 1/s, which is 1 + 1/x: a shift by 1.
    """
    return shifted(row[::-1], 1)[::-1]


def unit_row(signs):
    """Return the row of the polynomial that has this sign row on the stretch from 0 to 1."""
    return shifted(signs[::-1], -1)[::-1]


def upper_half(signs):
    """Return the sign row on the upper half of the stretch of a sign row, up to a positive factor.

    Its x is half of what the other x has beyond 1, the place of the middle.
    """
    return [entry << place for place, entry in enumerate(shifted(signs, 1))]


def lower_half(signs):
    """Return the sign row on the lower half of the stretch of a sign row, up to a positive factor."""
    return upper_half(signs[::-1])[::-1]


def part_signs(signs, start, length, places):
    """Return the sign row on a part of the stretch of a sign row, times 2^places to the power of the degree.

    The part begins `start` of 2^places equal steps behind the lower end, and it is `length` steps long.
    """
    in_steps = [coef << (places * left) for left, coef in enumerate(unit_row(signs)[::-1])][::-1]
    return unit_signs(scaled(shifted(in_steps, start), length))


def changes_in(signs):
    """Return the number of sign changes, zeros left out."""
    count = 0
    latest = 0
    for entry in signs:
        if entry != 0:
            if (entry < 0 < latest) or (latest < 0 < entry):
                count += 1
            latest = entry
    return count


def first_sign(signs):
    """Return the sign of the first entry that is not zero: that of the polynomial right behind the lower end."""
    for entry in signs:
        if entry > 0:
            return 1
        if entry < 0:
            return -1
    return 0


def last_sign(signs):
    """Return the sign of the last entry that is not zero: that of the polynomial right before the upper end."""
    return first_sign(signs[::-1])
