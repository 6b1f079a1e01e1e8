"""Where polynomials are positive and where they are negative: sign rows, certificates, maps, crossings, maxima."""

from lookstop.judging import judged
from lookstop.parting import ends_of, narrowed, parted
from lookstop.peaks import is_near, peaks_on
from lookstop.polys import Poly
from lookstop.ratios import compare
from lookstop.squares import split_row
from lookstop.stretches import changes_in, check_stretch, first_sign, last_sign, point_on, signs_on


def sign_row(poly, low, high):
    """Return the sign row of the polynomial on the stretch, a list of integers."""
    check_stretch(low, high)
    return signs_on(poly.coefs, low, high)


def sign_changes(row):
    """Return the number of sign changes of a list of integers, zeros left out."""
    return changes_in(row)


def split_square(poly):
    """Return (rest, root): `poly` is rest * root * root, and no square of a degree of 1 or more divides `rest`."""
    rest, root = split_row(poly.coefs)
    return (Poly.of(rest), Poly.of(root))


def is_certificate(poly, low, high, certificate):
    """Tell whether the certificate is valid for the polynomial on the stretch."""
    check_stretch(low, high)
    rest, root, cuts = certificate
    if len(cuts) < 2 or cuts[0] != low or cuts[-1] != high:
        return False
    neighbours = list(zip(cuts[:-1], cuts[1:]))
    if any([compare(left, right) >= 0 for left, right in neighbours]):
        return False
    if rest * root * root != poly:
        return False
    for left, right in neighbours:
        if any([entry < 0 for entry in signs_on(rest.coefs, left, right)]):
            return False
    return True


def decide(poly, low, high):
    """Return ("holds", certificate) if the polynomial is negative nowhere on the stretch, else ("fails", share)."""
    check_stretch(low, high)
    share, proof = judged(poly.coefs, low, high)
    if share is not None:
        return ("fails", share)
    rest, root, cuts = proof
    return ("holds", (Poly.of(rest), Poly.of(root), cuts))


def sign_map(poly, low, high, narrow):
    """Return the list of tuples (left, right, sign) from `low` to `high`; the sign 0 stands for a narrow crossing."""
    check_stretch(low, high)
    rest, _ = split_row(poly.coefs)
    if len(rest) == 0:
        return [(low, high, 1)]
    found = []
    for piece in parted(rest, low, high):
        left, right = ends_of(piece, low, high)
        before = first_sign(piece[3])
        if before == last_sign(piece[3]):
            found.append((left, right, before))
        else:
            inner, outer = narrowed(piece, low, high, narrow)
            parts = [(left, inner, before), (inner, outer, 0), (outer, right, -before)]
            found.extend([part for part in parts if part[0] != part[1]])
    return found


def crossings(poly, low, high):
    """Return the number of points strictly inside the stretch at which the polynomial crosses zero."""
    check_stretch(low, high)
    rest, _ = split_row(poly.coefs)
    sides = []
    for piece in parted(rest, low, high):
        sides.append(first_sign(piece[3]))
        sides.append(last_sign(piece[3]))
    return changes_in(sides)


def crossing_stretches(poly, low, high, narrow):
    """Return the list of pairs (left, right) around the points at which the polynomial crosses zero.

    Where a cut of the sign map happens to be such a point, it is both ends of its pair.
    """
    found = []
    latest = 0
    for left, right, sign in sign_map(poly, low, high, narrow):
        if sign == 0:
            found.append((left, right))
        elif sign == -latest:
            found.append((left, left))
        latest = sign
    return found


def greatest(poly, low, high, narrow):
    """Return (share, value, cap): nowhere on the stretch is the polynomial greater than `cap`.

    Its greatest value is at an end of the stretch or at a peak.
    """
    check_stretch(low, high)
    share, value = (low, poly(low))
    cap = _greater(value, poly(high))
    for place, bound in peaks_on(poly.coefs, low, high, narrow):
        cap = _greater(cap, bound)
        here = poly(place)
        if compare(here, value) > 0:
            share, value = (place, here)
    halvings = 1
    while not is_near(value, cap, narrow):
        # Only the end itself is greater than what was found, and it is not to be returned: go close to it.
        share = point_on(high, low, 1, halvings)
        value = poly(share)
        halvings = 2 * halvings
    return (share, value, cap)


def _greater(first, second):
    if compare(first, second) < 0:
        return second
    return first
