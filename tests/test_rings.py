"""Points 43 to 48: rings, the chances of their words, and how long they last."""

import random
import unittest
from fractions import Fraction
from itertools import product

from lookstop.errors import Endless, InvalidRing, InvalidStretch
from lookstop.polys import Poly
from lookstop.ratios import ratio
from lookstop.rings import Ring
from lookstop.signs import decide, split_square
from tests.checks import fraction, is_valid, pair, sturm_count, value_of

SHARES = (Fraction(1, 2), Fraction(1, 3), Fraction(6, 7), Fraction(1, 10 ** 9), Fraction(10 ** 9 - 1, 10 ** 9))
WORDS = ("at least 1/2", "below 1/2", "no word", "at least 9/10", f"below 1/{10 ** 29}")
X, Y = Poly(0, 1), Poly(1, -1)


def some_rows(seed, states):
    """Rows from each of which a word can be reached."""
    chance = random.Random(seed)
    while True:
        rows = [tuple(chance.choice([*range(states), chance.choice(WORDS)]) for _ in range(2)) for _ in range(states)]
        if not endless_states(rows):
            return rows


def endless_states(rows):
    """The states from which no order leads to a word, found by following all ways from each of them."""
    found = []
    for state in range(len(rows)):
        seen, waiting = {state}, [state]
        while waiting:
            for target in rows[waiting.pop()]:
                if target not in seen:
                    seen.add(target)
                    if isinstance(target, int):
                        waiting.append(target)
        if not any(isinstance(target, str) for target in seen):
            found.append(state)
    return found


def solved_by_hand(rows, share, added):
    """The values from each state on, Fractions: what is added for the state and the mean over its targets."""
    lines = []
    for state, row in enumerate(rows):
        line = [Fraction(state == other) for other in range(len(rows))] + [Fraction(added[state])]
        for target, chance in zip(row, (share, 1 - share)):
            if isinstance(target, int):
                line[target] -= chance
        lines.append(line)
    for place in range(len(rows)):
        chosen = next(at for at in range(place, len(rows)) if lines[at][place] != 0)
        lines[place], lines[chosen] = lines[chosen], lines[place]
        lines[place] = [entry / lines[place][place] for entry in lines[place]]
        for at in range(len(rows)):
            if at != place:
                lines[at] = [a - lines[at][place] * b for a, b in zip(lines[at], lines[place])]
    return [line[-1] for line in lines]


def chances_by_hand(rows, share, word):
    added = [sum(chance for target, chance in zip(row, (share, 1 - share)) if target == word) for row in rows]
    return solved_by_hand(rows, share, added)


RINGS = [[(0, "no word")], [("no word", 0)], [("no word", "no word")], [("below 1/2", "at least 1/2")],
         [(1, "below 1/2"), ("at least 1/2", 0)], [(1, 1), ("no word", 0)], [(5, 5), (0, 0), (1, 1), (2, 2), (3, 3),
                                                                              ("no word", 4)],
         [(1, 0), (2, 1), (3, 2), (4, 3), (5, 4), ("no word", 5)],
         [(1, 1), ("no word", 1), (1, 1), (1, 1), (1, 1), (1, 1)]] + [some_rows(seed, 1 + seed % 6)
                                                                      for seed in range(24)]


class MakingTest(unittest.TestCase):
    def assert_invalid(self, state, rows, **start):
        before = list(rows)
        with self.assertRaises(InvalidRing) as caught:
            Ring(rows, **start)
        self.assertEqual(repr(caught.exception.state), repr(state))
        self.assertEqual(rows, before)

    def assert_endless(self, state, rows, **start):
        with self.assertRaises(Endless) as caught:
            Ring(rows, **start)
        self.assertEqual(caught.exception.state, state)

    def test_most(self):
        self.assertEqual(Ring.MOST, 6)
        self.assertEqual(Ring(RINGS[0]).MOST, 6)

    def test_rows_and_start(self):
        for rows in RINGS:
            ring = Ring(rows)
            self.assertEqual((ring.rows, ring.start), (tuple(rows), 0))
            self.assertIs(type(ring.rows), tuple)
            self.assertTrue(all(type(row) is tuple for row in ring.rows))
            for start in range(len(rows)):
                self.assertEqual(Ring(rows, start=start).start, start)
        with self.assertRaises(TypeError):
            Ring(RINGS[4], 1)

    def test_no_rows_and_too_many(self):
        self.assert_invalid(0, [])
        self.assert_invalid(0, [], start=3)
        row = ("no word", "no word")
        self.assertEqual(len(Ring([row] * 6).rows), 6)
        self.assert_invalid(6, [row] * 7)
        self.assert_invalid(6, [row] * 8)
        self.assert_invalid(6, [row] * 100)
        self.assert_invalid(6, [row] * 7, start=6)

    def test_the_numbers_of_too_many_states_are_targets(self):
        row = ("no word", "no word")
        self.assert_invalid(6, [(6, "no word")] + [row] * 6)
        self.assert_invalid(0, [(7, "no word")] + [row] * 6)
        self.assert_invalid(6, [(8, 7)] + [row] * 8)
        self.assert_invalid(5, [row] * 5 + [(9, 0)] + [row] * 3)
        self.assert_invalid(6, [row] * 6 + [()])

    def test_numbers_of_targets(self):
        for row in ((), ("no word",), (0,), ("no word", "no word", "no word"), (0, 0, "no word"), (0, 1, 0, 1)):
            self.assert_invalid(0, [row])
            self.assert_invalid(0, [row, row])
            self.assert_invalid(1, [("no word", "no word"), row])
            self.assert_invalid(3, [("no word", "no word")] * 3 + [row, row, row])

    def test_targets(self):
        for target in (-1, 2, 3, 6, 10 ** 999, -10 ** 999, "", "?", "0", "1", "below 2/4", "at least 1/1", "no word ",
                       "below 0/1", "NO WORD", "no word\n", True, False):
            self.assert_invalid(0, [(target, "no word"), (0, 1)])
            self.assert_invalid(0, [("no word", target), (0, 1)])
            self.assert_invalid(1, [("no word", 1), (target, "no word")])
            self.assert_invalid(1, [(0, "no word"), (1, target)])
            self.assert_invalid(0, [(target, target), (target, target)])
        self.assert_invalid(0, [(1, "no word")])
        self.assertEqual(Ring([(1, "no word"), (1, f"at least 1/{10 ** 29}")]).rows[1], (1, f"at least 1/{10 ** 29}"))

    def test_starts(self):
        rows = [(1, "no word"), (0, "no word")]
        for start in (-1, -2, 2, 3, 6, 10 ** 999, True, False):
            with self.assertRaises(InvalidRing) as caught:
                Ring(rows, start=start)
            self.assertIs(caught.exception.state, start)

    def test_endless_states(self):
        self.assert_endless(0, [(0, 0)])
        self.assert_endless(1, [(1, "no word"), (1, 1)])
        self.assert_endless(0, [(0, 0), ("no word", "no word")])
        self.assert_endless(0, [(1, 1), (0, 0), ("no word", 0)], start=2)
        self.assert_endless(4, [(1, 1), (2, 2), (3, 3), ("no word", 4), (5, 4), (4, 5)])
        self.assert_endless(2, [("no word", 2), (0, 0), (2, 2)], start=1)
        self.assertEqual(len(Ring([(5, 5), (0, 0), (1, 1), (2, 2), (3, 3), (4, "no word")]).rows), 6)

    def test_all_small_rings(self):
        targets = (0, 1, "no word")
        for rows in product(product(targets, repeat=2), repeat=2):
            endless = endless_states(rows)
            if endless:
                self.assert_endless(endless[0], list(rows))
            else:
                self.assertEqual(Ring(list(rows)).rows, rows)

    def test_some_large_rings(self):
        chance = random.Random(17)
        kinds = set()
        for _ in range(200):
            states = chance.randrange(3, 7)
            rows = [tuple(chance.choice([*range(states), "no word"][:states + (chance.random() < 0.4)])
                          for _ in range(2)) for _ in range(states)]
            endless = endless_states(rows)
            kinds.add(endless[0] if endless else None)
            if endless:
                self.assert_endless(endless[0], rows)
            else:
                self.assertEqual(Ring(rows).rows, tuple(rows))
        self.assertGreater(len(kinds), 3)

    def test_which_error_comes_first(self):
        # A wrong row, a wrong start and an endless state.
        rows = [(0, 0), (0, "?"), ("no word",)]
        self.assert_invalid(1, rows, start=9)
        self.assert_invalid(2, [(0, 0), (0, "no word"), ("no word",)], start=9)
        self.assert_invalid(9, [(0, 0), (0, "no word")], start=9)
        self.assert_invalid(6, [(0, 0)] * 7, start=9)
        self.assert_endless(0, [(0, 0), (0, "no word")], start=1)

    def test_rows_that_are_changed_afterwards(self):
        rows = [(1, "no word"), (0, "below 1/2")]
        ring = Ring(rows)
        expected = ring.solution("no word")
        rows[0] = (0, 0)
        rows.clear()
        self.assertEqual(ring.rows, ((1, "no word"), (0, "below 1/2")))
        self.assertEqual(ring.solution("no word"), expected)


class SolutionCase(unittest.TestCase):
    def assert_form(self, ring, answer):
        self.assertIs(type(answer), tuple)
        tops, bottom = answer
        self.assertIs(type(tops), list)
        self.assertEqual(len(tops), len(ring.rows))
        for poly in (*tops, bottom):
            self.assertIsInstance(poly, Poly)
            self.assertLessEqual(poly.degree, 40)
        # Positive strictly between 0 and 1: positive somewhere, and without a root there.
        for share in SHARES:
            self.assertGreater(value_of(bottom.coefs, share), 0)
        while bottom.degree > 0:
            rest, bottom = split_square(bottom)
            self.assertEqual(sturm_count(rest.coefs, Fraction(0), Fraction(1)) if rest.degree > 0 else 0, 0)

    def assert_solution(self, ring, word):
        answer = ring.solution(word)
        self.assert_form(ring, answer)
        tops, bottom = answer
        for row, top in zip(ring.rows, tops):
            parts = [tops[target] if isinstance(target, int) else bottom if target == word else Poly()
                     for target in row]
            self.assertEqual(top, X * parts[0] + Y * parts[1])
        for share in SHARES:
            values = [value_of(top.coefs, share) / value_of(bottom.coefs, share) for top in tops]
            self.assertEqual(values, chances_by_hand(ring.rows, share, word))
        self.assertEqual(ring.chance(word), (tops[ring.start], bottom))

    def assert_lengths(self, ring):
        answer = ring.lengths()
        self.assert_form(ring, answer)
        tops, bottom = answer
        for row, top in zip(ring.rows, tops):
            parts = [tops[target] if isinstance(target, int) else Poly() for target in row]
            self.assertEqual(top, bottom + X * parts[0] + Y * parts[1])
        for share in SHARES:
            values = [value_of(top.coefs, share) / value_of(bottom.coefs, share) for top in tops]
            self.assertEqual(values, solved_by_hand(ring.rows, share, [1] * len(ring.rows)))
        self.assertEqual(ring.mean_length(), (tops[ring.start], bottom))


class SolutionTest(SolutionCase):
    def test_by_hand(self):
        top, bottom = Ring([(0, "below 1/2")]).chance("below 1/2")
        self.assertEqual(top, bottom)
        tops, bottom = Ring([(1, "below 1/2"), ("at least 1/2", 0)]).solution("at least 1/2")
        # One win more than in turn: x squared against (1 - x) from the first state.
        self.assertEqual(tops[0] * (1 - X * Y), bottom * X * X)
        top, bottom = Ring([("no word", "no word")]).mean_length()
        self.assertEqual(top, bottom)
        top, bottom = Ring([(0, "no word")]).mean_length()
        self.assertEqual(top * (1 - X), bottom)

    def test_all_rings(self):
        for rows in RINGS:
            for start in {0, len(rows) - 1}:
                ring = Ring(rows, start=start)
                for word in {target for row in rows for target in row if isinstance(target, str)}:
                    self.assert_solution(ring, word)
                self.assert_lengths(ring)

    def test_texts_that_no_state_says(self):
        for rows in RINGS[:12]:
            for text in ("at least 2/3", "", "?", "0", "below 2/4", "x" * 5000):
                ring = Ring(rows)
                self.assertEqual(ring.solution(text)[0], [Poly()] * len(rows))
                self.assert_solution(ring, text)
                self.assertEqual(ring.chance(text)[0], Poly())

    def test_the_chances_of_all_words_are_one_together(self):
        for rows in RINGS:
            ring = Ring(rows)
            words = {target for row in rows for target in row if isinstance(target, str)}
            for share in SHARES:
                total = sum(fraction(top(pair(share))) / fraction(bottom(pair(share)))
                            for top, bottom in map(ring.chance, words))
                self.assertEqual(total, 1)

    def test_common_factors(self):
        # Whatever happens, the word is said: each polynomial has all factors of the other one.
        rows = [(1, 2), (3, 4), (5, 0), ("no word", 5), (0, "no word"), ("no word", "no word")]
        ring = Ring(rows)
        self.assert_solution(ring, "no word")
        top, bottom = ring.chance("no word")
        self.assertEqual(top, bottom)
        rows = [(1, 1), (2, 0), (3, 1), (4, 2), (5, 3), ("at least 1/2", "below 1/2")]
        for start in range(6):
            self.assert_solution(Ring(rows, start=start), "below 1/2")

    def test_asked_again(self):
        for rows in RINGS[4:14]:
            ring = Ring(rows, start=len(rows) - 1)
            for word in ("no word", "?"):
                first = ring.solution(word)
                expected = (list(first[0]), first[1])
                self.assertEqual(ring.solution(word), expected)
                first[0][0] = Poly(7)
                first[0].clear()
                self.assertEqual(ring.solution(word), expected)
                self.assertEqual(ring.chance(word), (expected[0][-1], expected[1]))
                self.assertEqual(ring.chance(word), ring.chance(word))
            first = ring.lengths()
            expected = (list(first[0]), first[1])
            first[0].clear()
            self.assertEqual(ring.lengths(), expected)
            self.assertEqual(ring.mean_length(), (expected[0][-1], expected[1]))


class RaceTest(SolutionCase):
    def test_each_lead_and_lag(self):
        for lead, lag in product(range(1, 7), repeat=2):
            if lead + lag > 7:
                continue
            ring = Ring.race(lead, lag, "at least 1/2", "below 1/2")
            self.assertIsInstance(ring, Ring)
            self.assertEqual((len(ring.rows), ring.start), (lead + lag - 1, lag - 1))
            for state, (won, lost) in enumerate(ring.rows):
                gap = state + 1 - lag
                self.assertEqual(won, "at least 1/2" if gap + 1 == lead else state + 1)
                self.assertEqual(lost, "below 1/2" if gap - 1 == -lag else state - 1)
            self.assert_solution(ring, "at least 1/2")
            self.assert_solution(ring, "below 1/2")
            self.assert_lengths(ring)
            # At 1/2 the chance of the first word is lag / (lead + lag), and lead times lag tries are made.
            top, bottom = ring.chance("at least 1/2")
            self.assertEqual(fraction(top((1, 2))) / fraction(bottom((1, 2))), Fraction(lag, lead + lag))
            top, bottom = ring.mean_length()
            self.assertEqual(fraction(top((1, 2))) / fraction(bottom((1, 2))), lead * lag)

    def test_by_hand(self):
        self.assertEqual(Ring.race(1, 1, "no word", "below 1/2").rows, (("no word", "below 1/2"),))
        ring = Ring.race(2, 1, "at least 1/2", "below 1/2")
        self.assertEqual((ring.rows, ring.start), (((1, "below 1/2"), ("at least 1/2", 0)), 0))
        ring = Ring.race(lead=1, lag=2, first="at least 1/2", second="below 1/2")
        self.assertEqual((ring.rows, ring.start), (((1, "below 1/2"), ("at least 1/2", 0)), 1))

    def test_the_same_word_for_both(self):
        for lead, lag in ((1, 1), (3, 4), (6, 1), (2, 2)):
            ring = Ring.race(lead, lag, "no word", "no word")
            top, bottom = ring.chance("no word")
            self.assertEqual(top, bottom)
            self.assert_solution(ring, "no word")

    def test_beyond_the_limit(self):
        for lead, lag in ((4, 4), (7, 1), (1, 7), (20, 30)):
            with self.assertRaises(InvalidRing) as caught:
                Ring.race(lead, lag, "no word", "below 1/2")
            self.assertEqual(caught.exception.state, 6)


class AtMostTest(unittest.TestCase):
    def assert_answer(self, ring, word, bound, low, high, holds):
        answer = ring.chance_at_most(word, bound, low, high)
        top, bottom = ring.chance(word)
        gap = bound[0] * bottom - bound[1] * top
        self.assertEqual(answer, decide(gap, low, high))
        self.assertEqual(answer[0], "holds" if holds else "fails")
        if holds:
            self.assertTrue(is_valid(gap.coefs, low, high, answer[1]))
        else:
            share = fraction(answer[1])
            self.assertTrue(fraction(low) <= share < fraction(high))
            self.assertGreater(chances_by_hand(ring.rows, share, word)[ring.start], fraction(bound))

    def test_a_bound_that_is_just_reached(self):
        ring = Ring.race(2, 2, "at least 1/2", "below 1/2")
        # x squared against (1 - x) squared: 4/5 at 2/3.
        self.assert_answer(ring, "at least 1/2", (4, 5), (1, 3), (2, 3), True)
        self.assert_answer(ring, "at least 1/2", (4 * 10 ** 99 - 1, 5 * 10 ** 99), (1, 3), (2, 3), False)
        self.assert_answer(ring, "at least 1/2", (4 * 10 ** 99 + 1, 5 * 10 ** 99), (1, 3), (2, 3), True)
        self.assert_answer(ring, "at least 1/2", (4, 5), (1, 3), ratio(2 * 10 ** 99 + 1, 3 * 10 ** 99), False)

    def test_a_peak_that_is_just_reached(self):
        # A win and then a loss, or a loss and then a win: 2x(1 - x), at most 1/2.
        ring = Ring([(1, 2), ("below 1/2", "no word"), ("no word", "below 1/2")])
        self.assert_answer(ring, "no word", (1, 2), (1, 10), (9, 10), True)
        for digits in (2, 30, 300):
            self.assert_answer(ring, "no word", (10 ** digits - 1, 2 * 10 ** digits), (1, 10), (9, 10), False)
            self.assert_answer(ring, "no word", (10 ** digits + 1, 2 * 10 ** digits), (1, 10), (9, 10), True)

    def test_bounds_below_0_and_above_1(self):
        for rows in RINGS:
            ring = Ring(rows)
            for word in ("no word", "?"):
                self.assert_answer(ring, word, (1, 1), (1, 10), (9, 10), True)
                self.assert_answer(ring, word, (5, 4), (1, 10), (9, 10), True)
                self.assert_answer(ring, word, (-1, 4), (1, 10), (9, 10), False)
                self.assert_answer(ring, word, (-10 ** 999, 1), (1, 10), (9, 10), False)

    def test_a_word_that_is_certain(self):
        ring = Ring([(0, "below 1/2")])
        self.assert_answer(ring, "below 1/2", (1, 1), (1, 10 ** 99), (10 ** 99 - 1, 10 ** 99), True)
        self.assert_answer(ring, "below 1/2", (10 ** 99 - 1, 10 ** 99), (1, 10 ** 99), (1, 2), False)
        self.assert_answer(ring, "no word", (0, 1), (1, 10 ** 99), (1, 2), True)

    def test_all_rings(self):
        for rows in RINGS:
            ring = Ring(rows, start=len(rows) - 1)
            word = next(target for row in rows for target in row if isinstance(target, str))
            for low, high in (((1, 5), (2, 5)), ((2, 5), (3, 4))):
                values = [chances_by_hand(rows, Fraction(step, 100), word)[-1] for step in range(20, 76)
                          if fraction(low) <= Fraction(step, 100) <= fraction(high)]
                for bound in (max(values) - Fraction(1, 1000), Fraction(99, 100)):
                    kind, answer = ring.chance_at_most(word, pair(bound), low, high)
                    if max(values) > bound:
                        self.assertEqual(kind, "fails")
                    self.assert_answer(ring, word, pair(bound), low, high, kind == "holds")

    def test_stretches_that_are_none(self):
        ring = Ring.race(2, 2, "at least 1/2", "below 1/2")
        for low, high in (((0, 1), (1, 1)), ((0, 1), (1, 2)), ((1, 2), (1, 1)), ((-1, 2), (1, 2)), ((1, 2), (3, 2)),
                          ((1, 2), (1, 3)), ((1, 2), (1, 2)), ((1, 1), (0, 1)), ((2, 1), (3, 1)), ((-2, 1), (-1, 1)),
                          ((0, 1), (0, 1)), ((1, 10 ** 999), (1, 1)), ((0, 1), (1, 10 ** 999))):
            for word in ("at least 1/2", "?"):
                with self.assertRaises(InvalidStretch) as caught:
                    ring.chance_at_most(word, (1, 2), low, high)
                self.assertEqual((caught.exception.low, caught.exception.high), (low, high))
        self.assertEqual(ring.chance_at_most("?", (1, 2), (1, 10 ** 999), (10 ** 999 - 1, 10 ** 999))[0], "holds")

    def test_ahead_of_every_other_check(self):
        with self.assertRaises(InvalidStretch):
            Ring.race(2, 2, "no word", "no word").chance_at_most(None, None, (1, 1), (1, 2))


if __name__ == "__main__":
    unittest.main()
