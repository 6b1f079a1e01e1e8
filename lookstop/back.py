"""Told back from ends: which true shares make the ends of several trials likely."""

from lookstop.polys import Poly
from lookstop.ratios import ONE, ZERO, multiply, ratio
from lookstop.signs import sign_map


def likelihood(ends):
    """Return the polynomial of the likelihood of the ends, whatever tables were used."""
    wins, losses = _totals(ends)
    return Poly.path(wins, losses)


def likeliest(ends):
    """Return the share at which the likelihood is greatest, or None if there are no tries."""
    wins, losses = _totals(ends)
    if wins + losses == 0:
        return None
    return ratio(wins, wins + losses)


def likely_shares(ends, part, narrow):
    """Return the sign map, from 0 to 1, of the likelihood less this part of the greatest one, times an integer."""
    poly = likelihood(ends)
    share = likeliest(ends)
    most = ONE if share is None else poly(share)
    num, den = multiply(part, most)
    return sign_map(den * poly - num, ZERO, ONE, narrow)


def _totals(ends):
    """Return the sums of all wins and of all losses."""
    return (sum([wins for wins, _ in ends]), sum([losses for _, losses in ends]))
