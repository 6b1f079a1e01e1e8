"""Two tables: whether one of them is ever longer or wronger. Several tables: the chances that they say a word."""

from lookstop.bounds import wrong_pieces
from lookstop.polys import Poly
from lookstop.ratios import ONE, ZERO, compare
from lookstop.signs import decide


def compare_lengths(first, second):
    """Return (shorter, longer): shares at which the first table has fewer and more tries in the mean, or None."""
    return _signed_shares([(ZERO, ONE, first.mean_length() - second.mean_length())])


def compare_wrongs(first, second):
    """Return (less, more): shares at which the first table says a wrong word less and more often, or None."""
    return _signed_shares(_wrong_differences(first, second))


def never_worse(first, second):
    """Tell whether the first table is at no share longer and at no share wrong more often."""
    _, longer = compare_lengths(first, second)
    if longer is not None:
        return False
    _, more = compare_wrongs(first, second)
    return more is None


def all_say(word, *tables):
    """Return the polynomial of the chance that all of the tables say the word, each in a trial of its own."""
    total = Poly(1)
    for table in tables:
        total = total * table.chance(word)
    return total


def any_says(word, *tables):
    """Return the polynomial of the chance that at least one of the tables says the word."""
    silent = Poly(1)
    for table in tables:
        silent = silent * (1 - table.chance(word))
    return 1 - silent


def _wrong_differences(first, second):
    """Return the pieces (low, high, poly) of the chance of a wrong word, the first table's less the second one's."""
    ours = wrong_pieces(first)
    theirs = wrong_pieces(second)
    differences = []
    low = ZERO
    at, beside = (0, 0)
    while low != ONE:
        order = compare(ours[at][1], theirs[beside][1])
        high = ours[at][1] if order <= 0 else theirs[beside][1]
        differences.append((low, high, ours[at][2] - theirs[beside][2]))
        # The piece that ends here is done, and so are both if they end together.
        if order <= 0:
            at += 1
        if order >= 0:
            beside += 1
        low = high
    return differences


def _signed_shares(pieces):
    """Return a share at which one of the pieces is negative and a share at which one is positive, None for none.

    No share that is found is the upper end of its piece, where the next piece holds. At the share 1 nothing is
    missed, since a polynomial that is not zero there has the same sign close to it.
    """
    negative, positive = (None, None)
    for low, high, poly in pieces:
        if negative is None:
            negative = _negative_share(poly, low, high)
        if positive is None:
            positive = _negative_share(-poly, low, high)
    return (negative, positive)


def _negative_share(poly, low, high):
    """Return a share of the stretch, not `high`, at which the polynomial is negative, or None."""
    kind, answer = decide(poly, low, high)
    return answer if kind == "fails" else None
