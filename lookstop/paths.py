"""Orders of wins and losses: the counts to which they lead, and the polynomials of their chances."""

from lookstop.polys import Poly


def counts_with(tries):
    """Return the counts with this number of tries, in ascending order of wins."""
    return [(wins, tries - wins) for wins in range(tries + 1)]


def ways_from(table, wins, losses):
    """Return a dict that gives, for each count to which any lead, the number of orders of further tries.

    They begin at the count that is passed, and none of them goes on from an end.
    """
    ways = {(wins, losses): 1}
    for tries in range(wins + losses, table.limit):
        for won, lost in counts_with(tries):
            many = ways.get((won, lost), 0)
            if many > 0 and not table.is_end(won, lost):
                for after in ((won + 1, lost), (won, lost + 1)):
                    ways[after] = ways.get(after, 0) + many
    return ways


def sum_of_paths(weights):
    """Return the sum of the paths to the counts of a dict, each of them times the integer of its count."""
    total = Poly()
    for (wins, losses), weight in weights.items():
        if weight != 0:
            total = total + weight * Poly.path(wins, losses)
    return total
