"""Stopping tables: at which counts of wins and losses a trial ends, and which word is then said."""

from lookstop.errors import InvalidTable, InvalidWord
from lookstop.paths import counts_with, sum_of_paths, ways_from
from lookstop.ratios import is_integer
from lookstop.words import is_word


class Table:
    """A stopping table. It never changes."""

    LONGEST = 30

    def __init__(self, limit, looks, rule):
        if not is_integer(limit) or not 1 <= limit <= Table.LONGEST:
            raise InvalidTable("limit")
        if not are_looks(limit, looks):
            raise InvalidTable("looks")
        if not _has_counts(limit, rule):
            raise InvalidTable("rule")
        self.limit = limit
        self.looks = tuple(looks)
        self._rule = _in_order(limit, rule)
        self._ways = ways_from(self, 0, 0)
        self._ends = _reached_ends(self)

    @property
    def words(self):
        """The words of the reached ends, each once, in the order of their first occurrence."""
        found = []
        for _, _, word in self._ends:
            if word not in found:
                found.append(word)
        return tuple(found)

    def rule(self):
        """Return the rule as a new dict, in ascending order of tries, then of wins."""
        return {count: self._rule[count] for count in self._rule}

    def word_at(self, wins, losses):
        """Return the word of the rule for the count, or None."""
        return self._rule.get((wins, losses))

    def is_end(self, wins, losses):
        """Tell whether the count is an end, reached or not."""
        return wins + losses in self.looks and (wins, losses) in self._rule

    def ways(self, wins, losses):
        """Return the number of orders of wins and losses that lead to the count without an earlier end."""
        return self._ways.get((wins, losses), 0)

    def ends(self):
        """Return the list of tuples (wins, losses, word) of the reached ends, in order of tries, then of wins."""
        return list(self._ends)

    def chance(self, word):
        """Return the polynomial of the chance that the trial ends with this word."""
        said = [(wins, losses) for wins, losses, other in self._ends if other == word]
        return sum_of_paths({count: self._ways[count] for count in said})

    def chances(self):
        """Yield a pair (word, chance) for each word of `words`."""
        for word in self.words:
            yield (word, self.chance(word))

    def mean_cost(self, *, per_try=1, per_look=0):
        """Return the polynomial of the mean cost of a trial."""
        costs = {}
        for wins, losses, _ in self._ends:
            cost = cost_of(self.looks, wins + losses, per_try, per_look)
            costs[(wins, losses)] = cost * self.ways(wins, losses)
        return sum_of_paths(costs)

    def mean_length(self):
        """Return the polynomial of the mean number of tries."""
        return self.mean_cost()

    def with_look(self, tries):
        """Return the table with one more look."""
        _check_look(tries, self.limit)
        looks = [look for look in range(1, self.limit + 1) if look == tries or look in self.looks]
        return Table(self.limit, looks, self._rule)

    def without_look(self, tries):
        """Return the table with one look less."""
        _check_look(tries, self.limit - 1)
        return Table(self.limit, [look for look in self.looks if look != tries], self._rule)

    def __len__(self):
        return len(self._ends)

    def __contains__(self, x):
        wins, losses = x
        return self.is_end(wins, losses) and self.ways(wins, losses) > 0

    def __eq__(self, other):
        if not isinstance(other, Table):
            return False
        return self.limit == other.limit and self.looks == other.looks and self._rule == other._rule


def cost_of(looks, tries, per_try, per_look):
    """Return the price of a number of tries and of the looks among them."""
    past = [look for look in looks if look <= tries]
    return per_try * tries + per_look * len(past)


def are_looks(limit, looks):
    """Tell whether the looks are integers in strictly ascending order, from at least 1 to the limit."""
    latest = 0
    for look in looks:
        if not is_integer(look) or look <= latest:
            return False
        latest = look
    return latest == limit


def _check_look(tries, most):
    """Raise InvalidTable if the number of tries is not from 1 to `most`."""
    if not is_integer(tries) or not 1 <= tries <= most:
        raise InvalidTable("looks")


def _is_part(number):
    """Tell whether this may be the wins or the losses of a count."""
    return is_integer(number) and number >= 0


def _has_counts(limit, rule):
    """Tell whether the rule has only counts with 1 to `limit` tries, and all of those with `limit` tries."""
    for wins, losses in rule:
        if not _is_part(wins) or not _is_part(losses) or not 1 <= wins + losses <= limit:
            return False
    return all([count in rule for count in counts_with(limit)])


def _in_order(limit, rule):
    """Return the rule as a new dict in ascending order of tries, then of wins; each of its texts is a word."""
    ordered = {}
    for tries in range(1, limit + 1):
        for count in counts_with(tries):
            if count in rule:
                if not is_word(rule[count]):
                    raise InvalidWord(rule[count])
                ordered[count] = rule[count]
    return ordered


def _reached_ends(table):
    """Return the list of tuples (wins, losses, word) of the reached ends."""
    found = []
    for look in table.looks:
        for count in counts_with(look):
            if count in table:
                found.append((count[0], count[1], table.word_at(count[0], count[1])))
    return found
