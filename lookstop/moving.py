"""True shares that move: another share at each try, chosen within a stretch with knowledge of the count."""

from math import lcm

from lookstop.paths import counts_with
from lookstop.rows import lowest_terms
from lookstop.stretches import check_stretch


def greatest_moving(table, word, low, high):
    """Return (value, choices): the greatest chance of the word, and the share of the next try at each count."""
    return _moving(table, word, low, high, 1)


def least_moving(table, word, low, high):
    """Return (value, choices): the least chance of the word, and the share of the next try at each count."""
    return _moving(table, word, low, high, -1)


def _moving(table, word, low, high, wish):
    """Return the best chance and the choices that lead to it; the wish is 1 for the greatest and -1 for the least.

    At each count the chance is linear in the share of the next try, so one of the two ends is best. All chances are
    integers over powers of `whole`, the common denominator: one power more for each try that may still be made.
    """
    check_stretch(low, high)
    whole = lcm(low[1], high[1])
    choices = {}
    chances = {}
    scale = 1
    for tries in reversed(range(table.limit + 1)):
        for wins, losses in counts_with(tries):
            if table.is_end(wins, losses):
                chances[(wins, losses)] = scale if table.word_at(wins, losses) == word else 0
            elif table.ways(wins, losses) > 0:
                otherwise = chances[(wins, losses + 1)]
                gain = chances[(wins + 1, losses)] - otherwise
                share = high if wish * gain > 0 else low
                choices[(wins, losses)] = share
                chances[(wins, losses)] = share[0] * (whole // share[1]) * gain + whole * otherwise
        scale = scale * whole
    return (lowest_terms(chances[(0, 0)], whole, table.limit), choices)
