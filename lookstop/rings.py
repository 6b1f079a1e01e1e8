"""Rings: stopping rules without a limit, whose states lead to each other after wins and losses."""

from lookstop.errors import Endless, InvalidRing, InvalidStretch
from lookstop.polys import Poly
from lookstop.ratios import ONE, ZERO, compare, is_integer
from lookstop.signs import decide
from lookstop.stretches import check_stretch
from lookstop.words import is_word


class Ring:
    """A ring of states, each with the targets of a win and of a loss. It never changes."""

    MOST = 6

    def __init__(self, rows, *, start=0):
        _check_rows(rows)
        if not _is_state(start, len(rows)):
            raise InvalidRing(start)
        _check_ways_out(rows)
        self.rows = tuple([tuple(row) for row in rows])
        self.start = start

    @classmethod
    def race(cls, lead, lag, first, second):
        """Return the ring that says `first` with the wins `lead` ahead, and `second` with the losses `lag` ahead."""
        states = lead + lag - 1
        rows = []
        for state in range(states):
            after_win = state + 1 if state + 1 < states else first
            after_loss = state - 1 if state > 0 else second
            rows.append((after_win, after_loss))
        return cls(rows, start=lag - 1)

    def solution(self, word):
        """Return (tops, bottom): the chance of the word from each state on is its polynomial divided by `bottom`."""
        return _solved(self.rows, [_chance_of(word, row) for row in self.rows])

    def chance(self, word):
        """Return the pair (top, bottom) of the chance of the word from the first state on."""
        tops, bottom = self.solution(word)
        return (tops[self.start], bottom)

    def lengths(self):
        """Return (tops, bottom): the mean number of tries from each state on."""
        return _solved(self.rows, [Poly(1) for _ in self.rows])

    def mean_length(self):
        """Return the pair (top, bottom) of the mean number of tries from the first state on."""
        tops, bottom = self.lengths()
        return (tops[self.start], bottom)

    def chance_at_most(self, word, bound, low, high):
        """Return ("holds", certificate), or ("fails", share) where the chance of the word is greater than the bound."""
        check_stretch(low, high)
        if compare(low, ZERO) <= 0 or compare(high, ONE) >= 0:
            raise InvalidStretch(low, high)
        top, bottom = self.chance(word)
        return decide(bound[0] * bottom - bound[1] * top, low, high)


def _check_rows(rows):
    """Raise InvalidRing for the least state whose row is invalid, is missing or is one too many."""
    for state, row in enumerate(rows):
        if state >= Ring.MOST or len(row) != 2 or not all([_is_target(target, len(rows)) for target in row]):
            raise InvalidRing(state)
    if len(rows) == 0:
        raise InvalidRing(0)


def _is_target(target, states):
    """Tell whether the target is a word or the number of one of so many states."""
    if isinstance(target, str):
        return is_word(target)
    return _is_state(target, states)


def _is_state(number, states):
    return is_integer(number) and 0 <= number < states


def _check_ways_out(rows):
    """Raise Endless for the least state from which no order of wins and losses leads to a word."""
    ending = [False for _ in rows]
    # A shortest way to a word goes through each state once at most.
    for _ in rows:
        ending = [any([isinstance(target, str) or ending[target] for target in row]) for row in rows]
    for state, ends in enumerate(ending):
        if not ends:
            raise Endless(state)


def _chance_of(target, row):
    """Return the polynomial of the chance that the next try leads from a state with this row to the target."""
    chance = Poly()
    if row[0] == target:
        chance = chance + Poly.path(1, 0)
    if row[1] == target:
        chance = chance + Poly.path(0, 1)
    return chance


def _solved(rows, added):
    """Return (tops, bottom) that solve one equation for each state.

    The polynomial of the state is `bottom` times what is added for the state, plus the mean of the polynomials of
    the states to which the next try leads. The equations are solved without fractions: each division by the latest
    pivot is exact. The pivots are chances, up to positive factors, to leave some states at last. Since none of these
    states is endless, they are positive at all shares strictly between 0 and 1, and so is the last one, `bottom`.
    """
    lines = []
    for state, row in enumerate(rows):
        line = [-_chance_of(other, row) for other in range(len(rows))]
        line[state] = line[state] + 1
        lines.append(line + [added[state]])
    bottom = Poly(1)
    for place in range(len(rows)):
        chosen = lines[place]
        lines = [line if at == place else _cleared(line, chosen, place, bottom) for at, line in enumerate(lines)]
        bottom = chosen[place]
    return ([line[-1] for line in lines], bottom)


def _cleared(line, chosen, place, divisor):
    """Return the line, times the pivot and divided by the pivot before it, with a zero at the place."""
    pivot = chosen[place]
    return [(pivot * entry - line[place] * other) // divisor for entry, other in zip(line, chosen)]
