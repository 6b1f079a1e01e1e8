"""Parts a stretch into pieces, to find out where a polynomial without repeated factors is positive or negative.

A piece is a tuple (first, last, places, signs, speed). It goes from `first` to `last` of the 2^places equal steps
from the lower end of the whole stretch to the upper one. `signs` is its sign row, up to a positive factor; for a
piece without sign changes, a list with only the one sign may stand in its place. `speed` says how short a part a
guess looks at; with a speed of 0 no guess is made.

The sign changes of the parts of a piece are together at most as many as those of the piece. So a part that has all
of them leaves none for what lies beside it. A polynomial without repeated factors has no more than one sign change
on each piece as soon as the pieces are short enough.
"""

from lookstop.ratios import subtract
from lookstop.stretches import (changes_in, first_sign, last_sign, lower_half, part_signs, point_on, signs_on,
                                upper_half)

# The least speed of a guess. A piece that is cut in the middle has come as far with less work than by a slower one.
SLOWEST = 4


def parted(row, low, high):
    """Return the pieces from `low` to `high`, in ascending order, each with at most one sign change."""
    found = []
    waiting = [whole_piece(row, low, high)]
    while waiting:
        piece = waiting.pop()
        if changes_in(piece[3]) < 2:
            found.append(piece)
        else:
            waiting.extend(parts_of(piece)[::-1])
    return found


def whole_piece(row, low, high):
    """Return the stretch as one piece."""
    return (0, 1, 0, signs_on(row, low, high), 0)


def ends_of(piece, low, high):
    """Return the lower and the upper end of a piece of the stretch from `low` to `high`."""
    first, last, places, _, _ = piece
    return (point_on(low, high, first, places), point_on(low, high, last, places))


def parts_of(piece):
    """Return the two or three pieces into which a piece is cut, in ascending order."""
    near = _gathered(piece, piece[4])
    if near is None:
        return [_half(piece, False), _half(piece, True)]
    return _with_sides(piece, near)


def inward(piece):
    """Return a shorter piece around the root in a piece with one sign change, or one with the root as both ends."""
    near = _gathered(piece, max(SLOWEST, int(piece[4])))
    if near is not None:
        return near
    for upper in (False, True):
        half = _half(piece, upper)
        if changes_in(half[3]) == 1:
            return half
    first, last, places, _, _ = piece
    return (first + last, first + last, places + 1, [], 0)


def narrowed(piece, low, high, narrow):
    """Return the ends of a narrow stretch around the root in a piece with one sign change, or the root twice.

    The polynomial is not zero at the ends of the stretch.
    """
    num, den = subtract(high, low)
    while not _is_settled(piece, num * narrow, den):
        piece = inward(piece)
    return ends_of(piece, low, high)


def _is_settled(piece, num, den):
    first, last, places, signs, _ = piece
    if first == last:
        return True
    return signs[0] != 0 and signs[-1] != 0 and num * (last - first) <= den << places


def _half(piece, upper):
    """Return the upper or the lower half of a piece. If it has all the sign changes, a guess is worth while."""
    first, last, places, signs, speed = piece
    part = upper_half(signs) if upper else lower_half(signs)
    slower = 0
    if changes_in(part) == changes_in(signs):
        slower = max(SLOWEST, int(speed // 2))
    if upper:
        return (first + last, 2 * last, places + 1, part, slower)
    return (2 * first, first + last, places + 1, part, slower)


def _with_sides(piece, near):
    """Return the part `near`, which has all sign changes of the piece, with what lies beside it."""
    first, last, places, signs, _ = piece
    more = near[2] - places
    before = (first << more, near[0], near[2], [first_sign(signs)], 0)
    after = (near[1], last << more, near[2], [last_sign(signs)], 0)
    return [part for part in [before, near, after] if part[0] != part[1]]


def _gathered(piece, speed):
    """Return a part with all sign changes, two of 2^speed steps long, or None if it is not where it is guessed.

    Each guess that is right doubles the speed. So the digits of a place where roots lie very closely together are
    not found one by one, but twice as many each time.
    """
    first, last, places, signs, _ = piece
    steps = _guess(signs, speed) if speed > 0 else None
    if steps is None:
        return None
    part = part_signs(signs, steps, 2, speed)
    if changes_in(part) != changes_in(signs):
        return None
    start = (first << speed) + steps * (last - first)
    return (start, start + 2 * (last - first), places + speed, part, 2 * speed)


def _guess(signs, speed):
    """Return where a part of two of 2^speed steps begins that may hold all roots, which lie close together, or None.

    Close to such roots the value divided by the derivative is the distance divided by their number, which is not
    known. The quotients at both ends have the same proportion as the distances from there. The first two entries
    of the sign row show the value and the derivative at the lower end, the last two those at the upper end.
    """
    degree = len(signs) - 1
    from_left = signs[0] * (degree * signs[-1] - signs[-2])
    from_right = signs[-1] * (degree * signs[0] - signs[1])
    total = from_left + from_right
    if total == 0:
        return None
    nearest = ((from_left << (speed + 1)) + total) // (2 * total)
    if nearest < 0 or nearest > 1 << speed:
        return None
    # The part does not reach beyond the ends.
    if nearest == 0:
        return 0
    if nearest == 1 << speed:
        return nearest - 2
    return nearest - 1
