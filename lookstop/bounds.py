"""Bounds for all shares: how often a wrong word is said, and how many tries are made in the mean."""

from lookstop.polys import Poly
from lookstop.ratios import ONE, ZERO, compare
from lookstop.signs import decide, greatest, sign_map
from lookstop.words import is_wrong, read_word


def wrong_at(table, share):
    """Return the chance, a ratio, that the trial ends with a word that is wrong at this share."""
    poly = _wrong_poly(table, share)
    return poly(share)


def wrong_pieces(table):
    """Return the list of tuples (low, high, poly): the chance of a wrong word between the shares in the words."""
    poly = _wrong_poly(table, ZERO)
    steps = _steps(table)
    cuts = _ascending(list(steps)) + [ONE]
    pieces = [(ZERO, cuts[0], poly)]
    for low, high in zip(cuts[:-1], cuts[1:]):
        poly = poly + steps[low]
        pieces.append((low, high, poly))
    return pieces


def wrong_at_most(table, bound):
    """Return ("holds", certificates), one for each piece, or ("fails", share) where a wrong word is more frequent."""
    certificates = []
    for low, high, poly in wrong_pieces(table):
        kind, answer = decide(bound[0] - bound[1] * poly, low, high)
        if kind == "fails":
            return (kind, answer)
        certificates.append(answer)
    return ("holds", certificates)


def length_at_most(table, bound):
    """Return ("holds", certificate), or ("fails", share) where the mean number of tries is greater than the bound."""
    return decide(bound[0] - bound[1] * table.mean_length(), ZERO, ONE)


def worst_wrong(table, narrow):
    """Return (share, value, cap): the chance of a wrong word at the share, and a bound for it at all shares."""
    best, value, cap = (ZERO, wrong_at(table, ZERO), ZERO)
    for low, high, poly in wrong_pieces(table):
        share, here, bound = greatest(poly, low, high, narrow)
        if compare(here, value) > 0:
            best, value = (share, here)
        if compare(bound, cap) > 0:
            cap = bound
    return (best, value, cap)


def fitting_shares(table, word, bound, narrow):
    """Return the sign map of the chance of the word less the bound, times the denominator of the bound."""
    return sign_map(bound[1] * table.chance(word) - bound[0], ZERO, ONE, narrow)


def _wrong_poly(table, share):
    """Return the sum of the chances of all words that are wrong at the share."""
    total = Poly()
    for word, chance in table.chances():
        if is_wrong(word, share):
            total = total + chance
    return total


def _steps(table):
    """Return a dict that gives, for each share in a word, what is added there to the chance of a wrong word."""
    steps = {}
    for word, chance in table.chances():
        kind, share = read_word(word)
        if share is not None:
            # From its share onwards, `at least` is no longer wrong and `below` is.
            step = -chance if kind == "at least" else chance
            steps[share] = steps.get(share, Poly()) + step
    return steps


def _ascending(shares):
    """Return the list of the shares in ascending order."""
    found = []
    for share in shares:
        place = len(found)
        while place > 0 and compare(share, found[place - 1]) < 0:
            place -= 1
        found.insert(place, share)
    return found
