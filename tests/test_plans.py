"""Points 39 to 42: plans, plans that end early, their risks, and the least plan that keeps two bounds."""

import inspect
import random
import unittest
from fractions import Fraction
from math import comb

from lookstop.errors import InvalidTable, InvalidWord
from lookstop.plans import curtailed, least_plan, plan, plan_risks
from lookstop.polys import Poly
from lookstop.ratios import ratio
from lookstop.tables import Table
from tests.checks import fraction, is_ratio, pair
from tests.some_tables import counts_of

SHARES = (((1, 2), (2, 3)), ((2, 3), (1, 2)), ((1, 2), (1, 2)), ((1, 10 ** 29), (10 ** 29 - 1, 10 ** 29)),
          ((10 ** 29, 10 ** 30 - 1), (1, 3)))
SIZES = [(tries, least) for tries in (1, 2, 3, 7) for least in range(tries + 2)] + [(30, 0), (30, 1), (30, 17),
                                                                                  (30, 30), (30, 31)]


def words_of(low, high):
    return f"at least {low[0]}/{low[1]}", f"below {high[0]}/{high[1]}"


def risks_by_hand(tries, least, low, high):
    """The two risks as Fractions: sums of binomial chances."""
    def chance(wins, share):
        return comb(tries, wins) * fraction(share) ** wins * (1 - fraction(share)) ** (tries - wins)
    return (sum((chance(wins, low) for wins in range(tries + 1) if wins >= least), Fraction(0)),
            sum((chance(wins, high) for wins in range(tries + 1) if wins < least), Fraction(0)))


class PlanTest(unittest.TestCase):
    def test_by_hand(self):
        expected = {(0, 2): "below 2/3", (1, 1): "at least 1/2", (2, 0): "at least 1/2"}
        self.assertEqual(plan(2, 1, (1, 2), (2, 3)).rule(), expected)
        self.assertEqual(plan(tries=2, least=1, low=(1, 2), high=(2, 3)), Table(2, [2], expected))

    def test_limit_looks_and_rule(self):
        for low, high in SHARES:
            upper, lower = words_of(low, high)
            for tries, least in SIZES:
                table = plan(tries, least, low, high)
                self.assertIsInstance(table, Table)
                self.assertEqual((table.limit, table.looks), (tries, (tries,)))
                self.assertEqual(table.rule(), {count: upper if count[0] >= least else lower
                                                for count in counts_of(tries)})

    def test_one_word_only(self):
        for tries in (1, 5, 30):
            self.assertEqual(plan(tries, 0, (1, 2), (2, 3)).words, ("at least 1/2",))
            self.assertEqual(plan(tries, tries + 1, (1, 2), (2, 3)).words, ("below 2/3",))

    def test_shares_without_a_word(self):
        for wrong in ((0, 1), (1, 1), (1, 10 ** 30), (10 ** 30, 10 ** 30 + 1)):
            for function in (plan, curtailed):
                with self.assertRaises(InvalidWord) as caught:
                    function(3, 2, wrong, (1, 2))
                self.assertEqual(caught.exception.word, f"at least {wrong[0]}/{wrong[1]}")
                with self.assertRaises(InvalidWord) as caught:
                    function(3, 2, (1, 2), wrong)
                self.assertEqual(caught.exception.word, f"below {wrong[0]}/{wrong[1]}")

    def test_a_word_that_nobody_needs_is_not_made(self):
        # The share is beyond the limit of its digits, but no count of the table has a word with it.
        for function in (plan, curtailed):
            self.assertEqual(function(3, 0, (1, 2), (1, 10 ** 40)).words, ("at least 1/2",))
            self.assertEqual(function(3, 4, (1, 10 ** 40), (1, 2)).words, ("below 1/2",))

    def test_beyond_the_limits(self):
        for function in (plan, curtailed):
            for tries in (0, 31):
                with self.assertRaises(InvalidTable) as caught:
                    function(tries, 1, (1, 2), (2, 3))
                self.assertEqual(caught.exception.place, "limit")
            self.assertEqual(function(3, -2, (1, 2), (2, 3)), function(3, 0, (1, 2), (2, 3)))
            self.assertEqual(function(3, 9, (1, 2), (2, 3)), function(3, 4, (1, 2), (2, 3)))


class CurtailedTest(unittest.TestCase):
    def test_by_hand(self):
        upper, lower = words_of((1, 2), (2, 3))
        self.assertEqual(curtailed(2, 1, (1, 2), (2, 3)).rule(),
                         {(1, 0): upper, (0, 2): lower, (1, 1): upper, (2, 0): upper})
        self.assertEqual(curtailed(3, 2, (1, 2), (2, 3)).ends(),
                         [(0, 2, lower), (2, 0, upper), (1, 2, lower), (2, 1, upper)])

    def test_limit_looks_and_rule(self):
        for low, high in SHARES:
            upper, lower = words_of(low, high)
            for tries, least in SIZES:
                table = curtailed(tries, least, low, high)
                self.assertEqual((table.limit, table.looks), (tries, tuple(range(1, tries + 1))))
                expected = {}
                for count in [count for done in range(1, tries + 1) for count in counts_of(done)]:
                    self.assertFalse(count[0] >= least and count[1] >= tries + 1 - least)
                    if count[0] >= least:
                        expected[count] = upper
                    if count[1] >= tries + 1 - least:
                        expected[count] = lower
                self.assertEqual(table.rule(), expected)

    def test_it_ends_at_once_if_one_word_is_certain(self):
        for tries in (1, 2, 30):
            for least in (0, tries + 1):
                table = curtailed(tries, least, (1, 2), (2, 3))
                self.assertEqual(table.mean_length(), Poly(1))
                self.assertEqual(len(table.rule()), (tries + 1) * (tries + 2) // 2 - 1)

    def test_the_same_chances_as_in_the_plan(self):
        for low, high in SHARES[:3]:
            for tries, least in SIZES:
                whole, early = plan(tries, least, low, high), curtailed(tries, least, low, high)
                for word in words_of(low, high):
                    self.assertEqual(early.chance(word), whole.chance(word))
                self.assertTrue(early.mean_length() <= whole.mean_length())


class RisksTest(unittest.TestCase):
    def test_by_hand(self):
        self.assertEqual(plan_risks(3, 2, (1, 2), (2, 3)), ((1, 2), (7, 27)))
        self.assertEqual(plan_risks(1, 1, (1, 2), (2, 3)), ((1, 2), (1, 3)))

    def test_against_sums_of_binomial_chances(self):
        for low, high in SHARES + ((ratio(10 ** 999, 10 ** 999 * 2 + 1), (1, 3)),):
            for tries, least in SIZES:
                risks = plan_risks(tries, least, low, high)
                self.assertIs(type(risks), tuple)
                self.assertTrue(is_ratio(risks[0]) and is_ratio(risks[1]))
                expected = risks_by_hand(tries, least, low, high)
                self.assertEqual(risks, (pair(expected[0]), pair(expected[1])))

    def test_one_word_only(self):
        for tries in (1, 4, 30):
            for low, high in SHARES:
                self.assertEqual(plan_risks(tries, 0, low, high), ((1, 1), (0, 1)))
                self.assertEqual(plan_risks(tries, tries + 1, low, high), ((0, 1), (1, 1)))

    def test_they_are_the_chances_of_the_words(self):
        for low, high in SHARES[:3]:
            upper, lower = words_of(low, high)
            for tries, least in SIZES:
                table = plan(tries, least, low, high)
                first = table.chance(upper)(low)
                self.assertEqual(plan_risks(tries, least, low, high), (first, table.chance(lower)(high)))

    def test_beyond_the_limits(self):
        self.assertEqual(plan_risks(31, 31, (1, 2), (1, 2)), ((1, 2 ** 31), (2 ** 31 - 1, 2 ** 31)))
        self.assertEqual(plan_risks(3, -1, (1, 2), (2, 3)), ((1, 1), (0, 1)))
        self.assertEqual(plan_risks(3, 7, (1, 2), (2, 3)), ((0, 1), (1, 1)))

    def test_ratios_of_more_digits_than_are_written(self):
        low = Poly.path(7, 7)((10 ** 700, 3 * 10 ** 700 + 1))
        self.assertGreater(low[1], 10 ** 9000)
        self.assertEqual(plan_risks(2, 2, low, (1, 2)), (pair(fraction(low) ** 2), (3, 4)))
        self.assertEqual(least_plan(low, (1, 2), low, (1, 2))[:2], (1, 1))


class LeastPlanTest(unittest.TestCase):
    def assert_least(self, low, high, first, second, **most):
        answer = least_plan(low, high, first, second, **most)
        self.assertIs(type(answer), tuple)
        self.assertEqual(answer, self.least_by_hand(low, high, fraction(first), fraction(second), **most))
        return answer

    def least_by_hand(self, low, high, first, second, most=12):
        reasons = []
        for tries in range(1, most + 1):
            risks = [risks_by_hand(tries, least, low, high) for least in range(tries + 2)]
            kept = [least for least in range(tries + 2) if risks[least][0] <= first and risks[least][1] <= second]
            if kept:
                return (tries, kept[0], reasons)
            reasons.append(["first" if risk[0] > first else "second" for risk in risks])
        return (None, None, reasons)

    def test_bounds_that_the_first_plan_keeps(self):
        self.assertEqual(least_plan((1, 2), (2, 3), (1, 2), (1, 3)), (1, 1, []))
        self.assertEqual(least_plan((1, 2), (2, 3), (1, 1), (0, 1)), (1, 0, []))
        self.assertEqual(least_plan((1, 2), (2, 3), (0, 1), (1, 1)), (1, 2, []))
        self.assertEqual(least_plan((1, 2), (2, 3), (7, 2), (7, 2)), (1, 0, []))

    def test_reasons_by_hand(self):
        # One try: the first word is said with 1, 1/2 and 0, the second one with 0, 1/4 and 1.
        # Two tries: the first word is said with 1, 3/4, 1/4 and 0, the second one with 0, 1/16, 7/16 and 1.
        low, high = ((1, 2), (3, 4))
        self.assertEqual(least_plan(low, high, (1, 4), (1, 2)), (2, 2, [["first", "first", "second"]]))
        self.assertEqual(least_plan(low, high, (1, 4), (2, 5), most=2),
                         (None, None, [["first", "first", "second"], ["first", "first", "second", "second"]]))
        self.assertEqual(least_plan(low, high, (1, 3), (1, 5), most=2),
                         (None, None, [["first", "first", "second"], ["first", "first", "second", "second"]]))
        self.assertEqual(least_plan(low, high, (3, 4), (1, 16)), (2, 1, [["first", "second", "second"]]))

    def test_the_least_of_several(self):
        self.assertEqual(least_plan((1, 2), (2, 3), (1, 1), (1, 1)), (1, 0, []))
        self.assertEqual(least_plan((1, 2), (2, 3), (1, 2), (1, 1)), (1, 1, []))

    def test_bounds_that_no_plan_keeps(self):
        for most in (1, 2, 12):
            tries, least, reasons = least_plan((1, 2), (1, 2), (0, 1), (0, 1), most=most)
            self.assertEqual((tries, least), (None, None))
            self.assertEqual(reasons, [["first"] * (many + 1) + ["second"] for many in range(1, most + 1)])
        self.assertEqual(least_plan((1, 2), (2, 3), (-1, 1), (1, 1), most=2),
                         (None, None, [["first"] * 3, ["first"] * 4]))
        self.assertEqual(least_plan((1, 2), (2, 3), (1, 1), (-1, 5), most=2),
                         (None, None, [["second"] * 3, ["second"] * 4]))
        self.assertEqual(least_plan((1, 2), (2, 3), (-1, 1), (-1, 1), most=1), (None, None, [["first"] * 3]))

    def test_a_bound_that_is_just_reached(self):
        low, high = ((1, 3), (3, 4))
        for tries, least in ((1, 1), (2, 2), (3, 2), (5, 3), (8, 5), (12, 7)):
            first, second = plan_risks(tries, least, low, high)
            found = self.assert_least(low, high, first, second)
            self.assertLessEqual(found[0], tries)
            for bounds in ((first, second), (ratio(first[0] * 10 ** 99 - 1, first[1] * 10 ** 99), second),
                           (first, ratio(second[0] * 10 ** 99 - 1, second[1] * 10 ** 99))):
                self.assert_least(low, high, *bounds)
        self.assertEqual(least_plan((1, 2), (2, 3), (1, 2), (10 ** 99 - 1, 3 * 10 ** 99), most=1),
                         (None, None, [["first", "second", "second"]]))
        self.assertEqual(least_plan((1, 2), (2, 3), (10 ** 99 - 1, 2 * 10 ** 99), (1, 3), most=1),
                         (None, None, [["first", "first", "second"]]))

    def test_the_greatest_number_of_tries(self):
        low, high = ((1, 3), (3, 4))
        bounds = plan_risks(12, 7, low, high)
        found = self.assert_least(low, high, *bounds)
        self.assertEqual(found, least_plan(low, high, *bounds, most=12))
        for most in range(1, 13):
            self.assert_least(low, high, *bounds, most=most)
        # 12 is the greatest number if nothing else is said.
        self.assertEqual(len(least_plan(low, high, (0, 1), (0, 1))[2]), 12)

    def test_many_bounds(self):
        chance = random.Random(42)
        plans = set()
        for _ in range(60):
            low, high = (pair(Fraction(chance.randrange(1, 20), 20)) for _ in range(2))
            first, second = (pair(Fraction(chance.randrange(-1, 40), 60)) for _ in range(2))
            plans.add(self.assert_least(low, high, first, second, most=chance.randrange(1, 13))[0])
        self.assertGreater(len(plans), 4)

    def test_reasons_are_new_lists(self):
        answer = least_plan((1, 2), (2, 3), (1, 10), (1, 10), most=3)
        again = least_plan((1, 2), (2, 3), (1, 10), (1, 10), most=3)
        answer[2][0].clear()
        answer[2].clear()
        self.assertEqual(least_plan((1, 2), (2, 3), (1, 10), (1, 10), most=3), again)

    def test_most_is_passed_by_keyword(self):
        self.assertEqual(str(inspect.signature(least_plan)), "(low, high, first, second, *, most=12)")
        with self.assertRaises(TypeError):
            least_plan((1, 2), (2, 3), (1, 2), (1, 3), 5)


if __name__ == "__main__":
    unittest.main()
