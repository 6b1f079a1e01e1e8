"""Decides whether a polynomial, given by its row, is negative somewhere on a stretch."""

from lookstop.parting import ends_of, parts_of, whole_piece
from lookstop.ratios import ONE, ZERO
from lookstop.rows import value_at
from lookstop.squares import split_row
from lookstop.stretches import changes_in, first_sign, last_sign, point_on


def judged(row, low, high):
    """Return a tuple (share, proof), of which one is None.

    `share` is a ratio of the stretch, not `high`, at which the polynomial is negative. `proof` is a tuple
    (rest, root, cuts): two rows and a list of ratios, which make a certificate.
    """
    if is_negative_at(row, low):
        return (low, None)
    # Without repeated factors the cutting ends: on short pieces, the sign rows show the signs of the polynomial.
    rest, root = split_row(row)
    cuts = [low]
    waiting = [whole_piece(rest, low, high)]
    while waiting:
        piece = waiting.pop()
        signs = piece[3]
        left, right = ends_of(piece, low, high)
        if first_sign(signs) < 0:
            return (negative_beside(row, left, right), None)
        if last_sign(signs) < 0:
            return (negative_beside(row, right, left), None)
        if changes_in(signs) == 0:
            cuts.append(right)
        else:
            waiting.extend(parts_of(piece)[::-1])
    return (None, (rest, root, cuts))


def is_nowhere_negative(row):
    """Tell whether the polynomial is negative at no share from 0 to 1."""
    share, _ = judged(row, ZERO, ONE)
    return share is None


def is_negative_at(row, share):
    """Tell whether the polynomial is negative at the ratio."""
    return value_at(row, share[0], share[1]) < 0


def negative_beside(row, here, there):
    """Return a ratio between `here` and `there` at which the polynomial is negative, as it is right beside `here`."""
    halvings = 1
    share = point_on(here, there, 1, halvings)
    while not is_negative_at(row, share):
        halvings = 2 * halvings
        share = point_on(here, there, 1, halvings)
    return share
