"""All examples at the end of the document."""

import unittest

from lookstop.back import likeliest
from lookstop.bounds import wrong_at, wrong_at_most
from lookstop.errors import Endless, InvalidRatio, InvalidTable, InvalidText, InvalidWord, NotExact, OverBudget
from lookstop.moving import greatest_moving
from lookstop.notation import read_table, write_table
from lookstop.pairs import compare_lengths
from lookstop.plans import least_plan, plan_risks
from lookstop.polys import Poly
from lookstop.ratios import add, ratio
from lookstop.rings import Ring
from lookstop.signs import crossings, decide, is_certificate, sign_changes, sign_row, split_square
from lookstop.tables import Table
from lookstop.trials import PaidTrial, Trial
from lookstop.wishers import greatest_wished
from lookstop.words import is_wrong, read_word


class ExamplesTest(unittest.TestCase):
    def test_ratio(self):
        self.assertEqual(ratio(6, -4), (-3, 2))

    def test_ratio_with_a_zero_denominator(self):
        with self.assertRaises(InvalidRatio) as caught:
            ratio(5, 0)
        self.assertEqual(caught.exception.value, (5, 0))

    def test_add(self):
        self.assertEqual(add((1, 2), (1, 3), (1, 6)), (1, 1))

    def test_reading_a_polynomial(self):
        p = Poly(1, -2, 1, 0)
        self.assertEqual([p.coefs, p.degree, len(p), p[5], p((1, 3))], [(1, -2, 1), 2, 3, 0, (4, 9)])

    def test_repr(self):
        self.assertEqual(repr(3 * Poly(0, 1) - Poly.path(1, 1)), "Poly(0, 2, 1)")

    def test_not_exact(self):
        with self.assertRaises(NotExact):
            Poly(1, 1) // Poly(0, 2)

    def test_orders(self):
        p = Poly.path(1, 1)
        self.assertEqual([p <= 1, p >= Poly(0, 1), Poly(0, 1) >= p], [True, False, True])

    def test_sign_row(self):
        self.assertEqual(sign_row(Poly(1, 0, -4), (0, 1), (1, 3)), [9, 18, 5])

    def test_sign_changes(self):
        self.assertEqual(sign_changes([3, 0, -1, 0, 2]), 2)

    def test_split_square(self):
        rest, root = split_square(Poly(0, 2, -4, 2))
        self.assertEqual([rest.coefs, root.coefs], [(0, 2), (-1, 1)])

    def test_decide(self):
        answer = decide(Poly(1, -4, 4), (0, 1), (1, 1))
        self.assertEqual(answer[0], "holds")

    def test_is_certificate(self):
        certificate = (Poly(1), Poly(-1, 2), [(0, 1), (1, 1)])
        self.assertIs(is_certificate(Poly(1, -4, 4), (0, 1), (1, 1), certificate), True)

    def test_crossings(self):
        self.assertEqual(crossings(Poly(-1, 3) * Poly(-1, 2) ** 2, (0, 1), (1, 1)), 1)

    def test_read_word(self):
        with self.assertRaises(InvalidWord) as caught:
            read_word("at least 2/4")
        self.assertEqual(caught.exception.word, "at least 2/4")

    def test_is_wrong(self):
        found = [is_wrong("at least 1/2", (1, 2)), is_wrong("below 1/2", (1, 2)), is_wrong("no word", (1, 2))]
        self.assertEqual(found, [False, True, False])


class TableExamplesTest(unittest.TestCase):
    def setUp(self):
        self.table = Table(2, [1, 2], {(2, 0): "at least 1/2", (1, 1): "no word", (0, 2): "below 1/2",
                                       (0, 1): "below 1/2"})

    def test_reading_a_table(self):
        table = self.table
        self.assertEqual([table.ends(), table.ways(1, 1), len(table), (0, 2) in table, table.words],
                         [[(0, 1, "below 1/2"), (1, 1, "no word"), (2, 0, "at least 1/2")], 1, 3, False,
                          ("below 1/2", "no word", "at least 1/2")])

    def test_chances_and_costs(self):
        table = self.table
        self.assertEqual([table.chance("below 1/2").coefs, table.mean_length().coefs,
                          table.mean_cost(per_try=0, per_look=3).coefs], [(1, -1), (1, 1), (3, 3)])

    def test_invalid_table(self):
        with self.assertRaises(InvalidTable) as caught:
            Table(2, [1], {(2, 0): "no word", (1, 1): "no word", (0, 2): "no word"})
        self.assertEqual(caught.exception.place, "looks")

    def test_wrong_at(self):
        table = self.table
        self.assertEqual([wrong_at(table, (1, 3)), wrong_at(table, (1, 2)), wrong_at(table, (1, 1))],
                         [(1, 9), (1, 2), (0, 1)])

    def test_wrong_at_most(self):
        self.assertEqual(wrong_at_most(self.table, (1, 2))[0], "holds")

    def test_compare_lengths(self):
        self.assertIsNone(compare_lengths(self.table, self.table.without_look(1))[1])

    def test_greatest_wished(self):
        self.assertEqual([greatest_wished(self.table, "no word").coefs,
                          greatest_wished(self.table, "no word", skips=1).coefs], [(0, 1, -1), (0, 2, -2)])

    def test_greatest_moving(self):
        value, choices = greatest_moving(self.table, "at least 1/2", (1, 3), (1, 2))
        self.assertEqual([value, choices[(0, 0)], choices[(1, 0)]], [(1, 4), (1, 2), (1, 2)])

    def test_plan_risks(self):
        self.assertEqual(plan_risks(3, 2, (1, 2), (2, 3)), ((1, 2), (7, 27)))

    def test_least_plan(self):
        self.assertEqual(least_plan((1, 2), (2, 3), (1, 2), (1, 3)), (1, 1, []))

    def test_endless_ring(self):
        with self.assertRaises(Endless) as caught:
            Ring([(1, "no word"), (1, 1)])
        self.assertEqual(caught.exception.state, 1)

    def test_ring_with_one_word(self):
        ring = Ring([(0, "below 1/2")])
        top, bottom = ring.chance("below 1/2")
        self.assertIs(top == bottom, True)

    def test_likeliest(self):
        self.assertEqual(likeliest([(2, 1), (0, 3)]), (1, 3))

    def test_write_table(self):
        self.assertEqual(write_table(self.table),
                         "limit 2\nlooks 1 2\n0 1 below 1/2\n0 2 below 1/2\n1 1 no word\n2 0 at least 1/2")

    def test_read_table(self):
        with self.assertRaises(InvalidText) as caught:
            read_table("limit 1\nlooks 1\n0 1 no word")
        self.assertEqual(caught.exception.line, 4)

    def test_trial(self):
        trial = Trial(self.table)
        first = trial.record("W")
        second = trial.record("L")
        self.assertEqual([first, second, trial.undo(), trial.verdict, trial.remaining("no word").coefs],
                         [None, "no word", "L", None, (1, -1)])

    def test_paid_trial(self):
        trial = PaidTrial(self.table, 3, per_look=2)
        with self.assertRaises(OverBudget) as caught:
            trial.record("WW")
        self.assertEqual(caught.exception.missing, 3)


if __name__ == "__main__":
    unittest.main()
