"""Tables for tests, and what they say if every order of wins and losses is gone through."""

import random
from fractions import Fraction
from itertools import product
from math import gcd

from lookstop.tables import Table
from lookstop.words import is_wrong
from tests.checks import pair

RULE = {(2, 0): "at least 1/2", (1, 1): "no word", (0, 2): "below 1/2", (0, 1): "below 1/2"}


def small_table():
    """The table of the document's examples."""
    return Table(2, [1, 2], dict(RULE))


def counts_of(tries):
    return [(wins, tries - wins) for wins in range(tries + 1)]


def some_word(chance, most):
    while True:
        den = chance.randrange(2, most)
        num = chance.randrange(1, den)
        if gcd(num, den) == 1:
            return chance.choice([f"at least {num}/{den}", f"below {num}/{den}", "no word"])


def some_table(seed, limit, most=12):
    """A table with this limit, some looks and a rule for some counts, in any order."""
    chance = random.Random(seed)
    looks = [tries for tries in range(1, limit) if chance.randrange(2)] + [limit]
    counts = [count for tries in range(1, limit + 1) for count in counts_of(tries)
              if tries == limit or chance.randrange(3) == 0]
    chance.shuffle(counts)
    return Table(limit, looks, {count: some_word(chance, most) for count in counts})


def long_table(most=100):
    """A table with the limit 30 and all looks, with as many words as ends."""
    chance = random.Random(99)
    rule = {}
    for tries in range(1, 31):
        for wins, losses in counts_of(tries):
            if tries == 30 or (wins % 2 == 1 and losses % 2 == 1):
                rule[wins, losses] = some_word(chance, most)
    return Table(30, list(range(1, 31)), rule)


def silent_table(limit):
    """A table with one look that never says anything about the share."""
    return Table(limit, [limit], {count: "no word" for count in counts_of(limit)})


def path_chance(wins, losses, share):
    """The chance of so many wins and losses in one order, a Fraction."""
    return share ** wins * (1 - share) ** losses


def wrong_by_hand(table, share):
    """The chance of a wrong word at a share, a Fraction."""
    return sum((table.ways(wins, losses) * path_chance(wins, losses, share)
                for wins, losses, word in table.ends() if is_wrong(word, pair(share))), Fraction(0))


def length_by_hand(table, share):
    """The mean number of tries at a share, a Fraction."""
    return sum((table.ways(wins, losses) * (wins + losses) * path_chance(wins, losses, share)
                for wins, losses, _ in table.ends()), Fraction(0))


def all_trials(limit, looks, rule):
    """Each way in which a trial may go: a tuple of its results, 1 for a win and 0 for a loss."""
    ended = {}
    for results in product((0, 1), repeat=limit):
        for tries in range(1, limit + 1):
            count = (sum(results[:tries]), tries - sum(results[:tries]))
            if tries in looks and count in rule:
                ended[results[:tries]] = count
                break
    return ended
