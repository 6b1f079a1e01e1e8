"""Wishers: who miss looks, or look early, so that the trial ends with one word."""

from lookstop.paths import sum_of_paths


def greatest_wished(table, word, *, skips=0, early=False):
    """Return the polynomial of the greatest chance of the word that a wisher can reach.

    One behaviour is best at every share: to end with the word wherever this is possible, and to miss the look at
    each end with another word as long as this is allowed, since an end with another word gives no chance at all.
    """
    said = {}
    ways = {(0, 0, 0): 1}
    while ways:
        after = {}
        for (wins, losses, missed), many in ways.items():
            if _can_say(table, wins, losses, word, early):
                said[(wins, losses)] = said.get((wins, losses), 0) + many
            elif _goes_on(table, wins, losses, missed < skips):
                skipped = missed + 1 if table.is_end(wins, losses) else missed
                for state in ((wins + 1, losses, skipped), (wins, losses + 1, skipped)):
                    after[state] = after.get(state, 0) + many
        ways = after
    return sum_of_paths(said)


def harm(table, word, *, skips=0, early=False):
    """Return the greatest chance of the word that a wisher can reach, less its chance without a wisher."""
    return greatest_wished(table, word, skips=skips, early=early) - table.chance(word)


def _can_say(table, wins, losses, word, early):
    """Tell whether the trial may end at the count with the word."""
    return table.word_at(wins, losses) == word and (early or table.is_end(wins, losses))


def _goes_on(table, wins, losses, may_miss):
    """Tell whether the tries can go on from the count."""
    return wins + losses < table.limit and (may_miss or not table.is_end(wins, losses))
