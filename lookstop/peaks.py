"""Finds the peaks of a polynomial, given by its row: places inside a stretch where it rises before and falls behind.

The heights on a stretch are a tuple (signs, unit): the sign row of the polynomial there and a positive integer. With
x / (1 + x) for the way from the lower end to the upper one, (1 + x)^n times the value is the polynomial in x with the
entries of `signs`, divided by `unit`. So the first entry divided by `unit` is the value at the lower end, and no value
is greater than the greatest quotient of an entry and the coefficient of (1 + x)^n, divided by `unit`.
"""

from math import comb, lcm

from lookstop.parting import ends_of, inward, parted
from lookstop.ratios import compare, ratio
from lookstop.rows import derived, raised, value_ratio
from lookstop.squares import split_row
from lookstop.stretches import first_sign, last_sign, part_signs, signs_on


def peaks_on(row, low, high, narrow):
    """Return a list of tuples (share, cap) of ratios, one for each peak strictly inside the stretch.

    The value at the share, which is on the stretch and not `high`, is at most 1 / `narrow` less than `cap`. Between
    the share and the peak, no value is greater than `cap`.
    """
    slope, _ = split_row(derived(row))
    whole = (signs_on(row, low, high), raised(lcm(low[1], high[1]), len(row) - 1))
    found = []
    rising = False
    for piece in parted(slope, low, high):
        first, last = (first_sign(piece[3]), last_sign(piece[3]))
        if first > 0 and last < 0:
            found.append(_peak(whole, piece, low, high, narrow))
        elif first < 0 and rising:
            # A cut happens to be the peak.
            share, _ = ends_of(piece, low, high)
            found.append((share, value_ratio(row, share[0], share[1])))
        rising = last > 0
    return found


def is_near(value, cap, narrow):
    """Tell whether a ratio is at most 1 / `narrow` less than another one."""
    return (cap[0] * value[1] - value[0] * cap[1]) * narrow <= value[1] * cap[1]


def _peak(whole, piece, low, high, narrow):
    """Return the share and the cap for the peak in a piece; `whole` has the heights on the whole stretch."""
    first, last, places, _, _ = piece
    heights = _part_heights(whole, first, last - first, places)
    # One half of what is allowed is left for writing the cap with few digits.
    while not is_near((heights[0][0], heights[1]), _highest(heights), 2 * narrow):
        inner = inward(piece)
        heights = _inner_heights(heights, piece, inner)
        piece = inner
    num, den = _highest(heights)
    share, _ = ends_of(piece, low, high)
    return (share, ratio(-(-2 * narrow * num // den), 2 * narrow))


def _highest(heights):
    """Return numerator and denominator of a bound that no value on the stretch exceeds."""
    signs, unit = heights
    most = (signs[0], 1)
    for place, entry in enumerate(signs):
        bound = (entry, comb(len(signs) - 1, place))
        if compare(bound, most) > 0:
            most = bound
    return (most[0], most[1] * unit)


def _inner_heights(heights, piece, inner):
    """Return the heights on a piece that lies inside of another one, whose heights are given."""
    places = inner[2] - piece[2]
    size = piece[1] - piece[0]
    start = (inner[0] - (piece[0] << places)) // size
    return _part_heights(heights, start, (inner[1] - inner[0]) // size, places)


def _part_heights(heights, start, length, places):
    """Return the heights on a part of a stretch, which is given as `part_signs` takes it."""
    signs, unit = heights
    return (part_signs(signs, start, length, places), unit << (places * (len(signs) - 1)))
