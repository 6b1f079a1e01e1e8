"""Plans: so many tries, and a word that depends on whether the wins are enough."""

from math import comb

from lookstop.paths import counts_with, sum_of_paths
from lookstop.ratios import compare
from lookstop.tables import Table
from lookstop.words import at_least, below


def plan(tries, least, low, high):
    """Return the table that looks after `tries` tries only and says `at least LOW` from `least` wins onwards."""
    rule = {}
    for wins, losses in counts_with(tries):
        rule[(wins, losses)] = at_least(low) if wins >= least else below(high)
    return Table(tries, [tries], rule)


def curtailed(tries, least, low, high):
    """Return the table that says the words of the plan as soon as no further tries could change them."""
    rule = {}
    for done in range(1, tries + 1):
        for wins, losses in counts_with(done):
            if wins >= least:
                rule[(wins, losses)] = at_least(low)
            elif losses >= tries + 1 - least:
                rule[(wins, losses)] = below(high)
    return Table(tries, list(range(1, tries + 1)), rule)


def plan_risks(tries, least, low, high):
    """Return the chance of at least `least` wins at the share `low`, and that of fewer wins at `high`."""
    enough = {}
    fewer = {}
    for wins, losses in counts_with(tries):
        if wins >= least:
            enough[(wins, losses)] = comb(tries, wins)
        else:
            fewer[(wins, losses)] = comb(tries, wins)
    first = sum_of_paths(enough)
    second = sum_of_paths(fewer)
    return (first(low), second(high))


def least_plan(low, high, first, second, *, most=12):
    """Return (tries, least, reasons): the shortest plan that keeps both bounds, and why no shorter one does."""
    reasons = []
    for tries in range(1, most + 1):
        broken = []
        for least in range(tries + 2):
            risks = plan_risks(tries, least, low, high)
            if compare(risks[0], first) > 0:
                broken.append("first")
            elif compare(risks[1], second) > 0:
                broken.append("second")
            else:
                return (tries, least, reasons)
        reasons.append(broken)
    return (None, None, reasons)
