"""What the document promises over the whole program: points 1, 2, 61 and 62."""

import ast
import copy
import unittest
from pathlib import Path

from lookstop.back import likelihood, likeliest, likely_shares
from lookstop.bounds import fitting_shares, length_at_most, worst_wrong, wrong_at, wrong_at_most, wrong_pieces
from lookstop.errors import Endless, InvalidRing, InvalidTable, StopError
from lookstop.moving import greatest_moving, least_moving
from lookstop.notation import read_table, write_table
from lookstop.pairs import all_say, any_says, compare_lengths, compare_wrongs, never_worse
from lookstop.plans import curtailed, least_plan, plan, plan_risks
from lookstop.polys import Poly
from lookstop.ratios import add, compare, divide, midpoint, multiply, subtract
from lookstop.rings import Ring
from lookstop.signs import (crossing_stretches, crossings, decide, greatest, is_certificate, sign_changes, sign_map,
                            sign_row, split_square)
from lookstop.tables import Table
from lookstop.trials import PaidTrial, Trial
from lookstop.wishers import greatest_wished, harm
from lookstop.words import is_wrong
from tests.checks import fraction, is_ratio, is_valid
from tests.some_tables import RULE, silent_table, small_table, some_table

FOLDER = Path(__file__).resolve().parent.parent / "lookstop"
HALF, THIRD, ONE = (1, 2), (1, 3), (1, 1)


def ring():
    return Ring.race(2, 1, "at least 1/2", "below 1/2")


# Each call with fresh arguments, made by a function, so that they can be looked at afterwards.
CALLS = [
    (sign_row, lambda: (Poly(1, 0, -4), (0, 1), THIRD)),
    (sign_changes, lambda: ([3, 0, -1, 0, 2],)),
    (split_square, lambda: (Poly(0, 2, -4, 2),)),
    (is_certificate, lambda: (Poly(1, -4, 4), (0, 1), ONE, (Poly(1), Poly(-1, 2), [(0, 1), ONE]))),
    (decide, lambda: (Poly(1, -4, 4), (0, 1), ONE)),
    (decide, lambda: (Poly(1, -5, 4), (0, 1), ONE)),
    (sign_map, lambda: (Poly(1, -5, 4), (0, 1), ONE, 10)),
    (crossings, lambda: (Poly(1, -5, 4), (0, 1), ONE)),
    (crossing_stretches, lambda: (Poly(1, -5, 4), (0, 1), ONE, 10)),
    (greatest, lambda: (Poly(1, -5, 4), (0, 1), ONE, 10)),
    (wrong_at, lambda: (small_table(), THIRD)),
    (wrong_pieces, lambda: (small_table(),)),
    (wrong_at_most, lambda: (small_table(), HALF)),
    (wrong_at_most, lambda: (small_table(), THIRD)),
    (length_at_most, lambda: (small_table(), (2, 1))),
    (worst_wrong, lambda: (small_table(), 100)),
    (fitting_shares, lambda: (small_table(), "no word", (1, 5), 100)),
    (compare_lengths, lambda: (small_table(), silent_table(2))),
    (compare_wrongs, lambda: (small_table(), silent_table(2))),
    (never_worse, lambda: (small_table(), silent_table(2))),
    (all_say, lambda: ("no word", small_table(), silent_table(2))),
    (any_says, lambda: ("no word", small_table(), silent_table(2))),
    (greatest_wished, lambda: (small_table(), "no word")),
    (harm, lambda: (small_table(), "no word")),
    (greatest_moving, lambda: (small_table(), "no word", THIRD, HALF)),
    (least_moving, lambda: (small_table(), "no word", THIRD, HALF)),
    (plan, lambda: (3, 2, HALF, THIRD)),
    (curtailed, lambda: (3, 2, HALF, THIRD)),
    (plan_risks, lambda: (3, 2, HALF, THIRD)),
    (least_plan, lambda: (HALF, THIRD, (1, 9), (1, 9))),
    (likelihood, lambda: ([(2, 1), (0, 3)],)),
    (likeliest, lambda: ([(2, 1), (0, 3)],)),
    (likely_shares, lambda: ([(2, 1), (0, 3)], HALF, 10)),
    (write_table, lambda: (small_table(),)),
    (read_table, lambda: (write_table(small_table()),)),
    (Table, lambda: (2, [1, 2], dict(RULE))),
    (Table.with_look, lambda: (silent_table(3), 2)),
    (Table.without_look, lambda: (small_table(), 1)),
    (Table.rule, lambda: (small_table(),)),
    (Table.ends, lambda: (small_table(),)),
    (Table.chance, lambda: (small_table(), "no word")),
    (Table.mean_cost, lambda: (small_table(),)),
    (Ring, lambda: ([(1, "no word"), ("below 1/2", 0)],)),
    (Ring.solution, lambda: (ring(), "at least 1/2")),
    (Ring.chance, lambda: (ring(), "at least 1/2")),
    (Ring.lengths, lambda: (ring(),)),
    (Ring.mean_length, lambda: (ring(),)),
    (Ring.chance_at_most, lambda: (ring(), "at least 1/2", HALF, THIRD, (2, 3))),
    (Trial.history, lambda: (Trial.replay(small_table(), ["W", "L"]),)),
    (Trial.remaining, lambda: (Trial.replay(small_table(), ["W"]), "no word")),
    (Trial.remaining_length, lambda: (Trial.replay(small_table(), ["W"]),)),
    (Trial.fork, lambda: (Trial.replay(small_table(), ["W"]),)),
    (Trial.replay, lambda: (small_table(), ["W", "L"])),
    (PaidTrial.fork, lambda: (PaidTrial(small_table(), 4, per_look=2),)),
]


def content(value):
    """A value with all that it holds, as a text that shows each difference."""
    if isinstance(value, (list, tuple)):
        return f"{type(value).__name__}({', '.join(map(content, value))})"
    if isinstance(value, dict):
        return f"dict({', '.join(f'{content(key)}: {content(value[key])}' for key in value)})"
    if isinstance(value, (Poly, Table, Ring, Trial)):
        return f"{type(value).__name__}({content(vars(value))})"
    return repr(value)


def spoil(value):
    """Change each list and each dict in a value, however deep it lies in tuples and lists."""
    if isinstance(value, (list, tuple)):
        for part in value:
            spoil(part)
    if isinstance(value, list):
        value.append("spoilt")
        value.reverse()
    if isinstance(value, dict):
        value["spoilt"] = value.clear()


class NothingIsChangedTest(unittest.TestCase):
    def test_arguments_stay(self):
        for function, arguments in CALLS:
            values = arguments()
            function(*values)
            self.assertEqual(content(values), content(arguments()), function.__name__)

    def test_what_is_returned_is_new(self):
        for function, arguments in CALLS:
            values = arguments()
            first = function(*values)
            expected = content(first)
            spoil(first)
            self.assertEqual(content(values), content(arguments()), function.__name__)
            self.assertEqual(content(function(*values)), expected, function.__name__)

    def test_later_changes_have_no_effect(self):
        for function, arguments in CALLS:
            values = arguments()
            result = function(*values)
            expected = content(copy.deepcopy(result))
            spoil(values)
            self.assertEqual(content(result), expected, function.__name__)

    def test_parts_that_are_read_cannot_be_changed(self):
        table = small_table()
        for value in (table.looks, table.words, ring().rows, ring().rows[0], Poly(1, 2).coefs):
            self.assertIs(type(value), tuple)


class IntegersOnlyTest(unittest.TestCase):
    def test_no_clock_no_random_numbers_no_files(self):
        for file in FOLDER.glob("*.py"):
            for node in ast.walk(ast.parse(file.read_text())):
                if isinstance(node, ast.ImportFrom):
                    self.assertTrue(node.module == "math" or node.module.startswith("lookstop."), file.name)
                self.assertNotIsInstance(node, (ast.Import, ast.Div))

    def test_true_and_false_are_no_integers(self):
        rule = {(0, 1): "no word", (1, 0): "no word"}
        for place, arguments in (("limit", (True, [1], rule)), ("limit", (False, [1], rule)),
                                 ("looks", (1, [True], rule)), ("looks", (2, [True, 2], {})),
                                 ("looks", (1, [False, 1], rule)), ("rule", (1, [1], {(0, True): "no word", **rule})),
                                 ("rule", (1, [1], {(False, 1): "no word", (1, 0): "no word"})),
                                 ("rule", (1, [1], {(0, 1): "no word", (True, False): "no word"}))):
            with self.assertRaises(InvalidTable) as caught:
                Table(*arguments)
            self.assertEqual(caught.exception.place, place)
        for change in (Table.with_look, Table.without_look):
            for value in (True, False):
                with self.assertRaises(InvalidTable) as caught:
                    change(small_table(), value)
                self.assertEqual(caught.exception.place, "looks")
        for rows, start, state in (([(True, "no word"), (0, 1)], 0, 0), ([(1, "no word"), ("no word", False)], 0, 1)):
            with self.assertRaises(InvalidRing) as caught:
                Ring(rows, start=start)
            self.assertEqual(caught.exception.state, state)
        self.assertNotEqual(Poly(1), True)
        for call in (lambda: Poly(1) + True, lambda: False - Poly(1), lambda: Poly(1) * True, lambda: Poly(1) // True,
                     lambda: Poly(1) ** True, lambda: Poly(1) <= True, lambda: True >= Poly(1)):
            self.assertRaises(TypeError, call)


class ManyDigitsTest(unittest.TestCase):
    """Ratios and polynomials that the package has returned, with more digits than Python turns into a text."""

    def setUp(self):
        self.low = Poly.path(20, 20)((10 ** 600, 3 * 10 ** 600 + 1))
        self.high = multiply((2, 1), self.low)
        self.assertGreater(self.low[1], 10 ** 20000)
        self.assertRaises(ValueError, str, self.low[1])

    def test_ratios(self):
        low, high = self.low, self.high
        for value in (add(low, high), subtract(low, high), multiply(low, high), divide(low, high), midpoint(low, high)):
            self.assertTrue(is_ratio(value))
        self.assertEqual(compare(low, high), -1)

    def test_stretches(self):
        low, high = self.low, self.high
        poly = Poly(-low[0], low[1])
        self.assertEqual(poly(low), (0, 1))
        self.assertEqual(decide(poly, low, high)[0], "holds")
        self.assertTrue(is_valid(poly.coefs, low, high, decide(poly, low, high)[1]))
        self.assertEqual(decide(-poly, low, high)[0], "fails")
        self.assertEqual(crossings(poly, (0, 1), high), 1)
        share, value, cap = greatest(poly, low, high, 1000)
        self.assertTrue(all(map(is_ratio, (share, value, cap))))

    def test_tables(self):
        low, high = self.low, self.high
        table = small_table()
        self.assertEqual(wrong_at(table, low), multiply(low, low))
        self.assertIs(is_wrong("at least 1/2", low), True)
        self.assertEqual(wrong_at_most(table, add(HALF, low))[0], "holds")
        self.assertEqual(wrong_at_most(table, subtract(HALF, low))[0], "fails")
        self.assertEqual(length_at_most(table, subtract((2, 1), low))[0], "fails")
        self.assertEqual(fitting_shares(table, "no word", low, 1)[0][0], (0, 1))
        self.assertEqual(greatest_moving(table, "at least 1/2", low, high)[0], multiply(high, high))
        self.assertEqual(plan_risks(1, 1, low, high), (low, subtract(ONE, high)))
        self.assertEqual(least_plan(low, high, low, ONE), (1, 1, []))
        self.assertEqual(least_plan(low, high, (0, 1), low, most=1), (None, None, [["first", "first", "second"]]))

    def test_rings_and_likelihoods(self):
        low, high = self.low, self.high
        kind, certificate = ring().chance_at_most("at least 1/2", ONE, low, high)
        self.assertEqual(kind, "holds")
        self.assertEqual((certificate[2][0], certificate[2][-1]), (low, high))
        self.assertEqual(ring().chance_at_most("below 1/2", high, low, high)[0], "fails")
        signs = [sign for _, _, sign in likely_shares([(3, 2)], low, 1000)]
        self.assertIn(1, signs)

    def test_errors_write_no_text(self):
        low, high = self.low, self.high
        for call in (lambda: decide(Poly(1), high, low), lambda: greatest_moving(small_table(), "?", low, low),
                     lambda: least_moving(small_table(), "?", high, low), lambda: divide(low, (0, 1)),
                     lambda: ring().chance_at_most("?", HALF, high, low)):
            self.assertRaises(StopError, call)
        trial = PaidTrial(small_table(), 0, per_try=self.low[1])
        with self.assertRaises(StopError) as caught:
            trial.record("W")
        self.assertEqual(caught.exception.missing, self.low[1])

    def test_sums_and_products_of_polynomials(self):
        table = some_table(3, 9)
        total = Poly()
        for word in table.words:
            total = total + self.low[1] * table.chance(word)
        self.assertEqual(total, Poly(self.low[1]))
        self.assertTrue(total >= self.low[0])
        self.assertEqual(decide(total - self.low[0], (0, 1), ONE)[0], "holds")


class AnswersTest(unittest.TestCase):
    def test_each_answer_is_a_certificate_or_a_share(self):
        for seed in range(6):
            table = some_table(seed, 3 + seed)
            for bound in ((1, 7), HALF, (5, 6)):
                kind, answer = wrong_at_most(table, bound)
                if kind == "fails":
                    self.assertGreater(fraction(wrong_at(table, answer)), fraction(bound))
                for (low, high, poly), certificate in zip(wrong_pieces(table), answer if kind == "holds" else []):
                    self.assertTrue(is_valid((bound[0] - bound[1] * poly).coefs, low, high, certificate))
                kind, answer = length_at_most(table, multiply(bound, (table.limit, 1)))
                if kind == "fails":
                    self.assertGreater(fraction(table.mean_length()(answer)), fraction(bound) * table.limit)

    def test_a_plan_in_use(self):
        # The greatest chances of wrong words of a plan are its risks: one is just reached, the other one approached.
        low, high = HALF, (4, 5)
        tries, least, _ = least_plan(low, high, (1, 5), (1, 5))
        table = curtailed(tries, least, low, high)
        first, second = plan_risks(tries, least, low, high)
        worst = first if compare(first, second) > 0 else second
        self.assertEqual(wrong_at_most(table, worst)[0], "holds")
        self.assertEqual(wrong_at_most(table, subtract(worst, (1, 10 ** 99)))[0], "fails")
        self.assertIsNone(compare_lengths(table, plan(tries, least, low, high))[1])
        trial = Trial(read_table(write_table(table)))
        while trial.verdict is None:
            trial.record("W")
        self.assertEqual(trial.verdict, "at least 1/2")
        self.assertEqual(likeliest([(trial.wins, trial.losses)]), ONE)

    def test_errors_leave_everything(self):
        rows, rule = [(0, 0)], {(0, 1): "?", (1, 0): "no word"}
        with self.assertRaises(Endless):
            Ring(rows)
        with self.assertRaises(StopError):
            Table(1, [1], rule)
        self.assertEqual((rows, rule), ([(0, 0)], {(0, 1): "?", (1, 0): "no word"}))


if __name__ == "__main__":
    unittest.main()
