"""Points 49 and 50: what the ends of several trials tell about the true share."""

import unittest
from fractions import Fraction

from lookstop.back import likelihood, likeliest, likely_shares
from lookstop.polys import Poly
from lookstop.ratios import ratio
from lookstop.signs import sign_map
from tests.checks import fraction, has_square, is_ratio, pair, sign_row_by_hand, value_of

MANY = [(2, 1), (0, 3), (1, 0), (0, 0), (4, 4)]
FORTY = [(30, 0), (0, 10)]
ALL_ENDS = ([], [(0, 0)], [(0, 0), (0, 0)], [(1, 0)], [(0, 1)], [(3, 0), (2, 0)], [(0, 3), (0, 4)], [(1, 1)], [(2, 1)],
            MANY, FORTY, [(20, 20)], [(40, 0)], [(0, 40)], [(1, 39)], [(2, 3)] * 8)
NARROWS = (1, 1000, 1000000)


def sums(ends):
    return sum(wins for wins, _ in ends), sum(losses for _, losses in ends)


class LikelihoodTest(unittest.TestCase):
    def test_it_is_the_path_of_all_ends(self):
        for ends in ALL_ENDS:
            self.assertEqual(likelihood(ends), Poly.path(*sums(ends)))
            self.assertIsInstance(likelihood(ends), Poly)

    def test_without_tries(self):
        self.assertEqual(likelihood([]), Poly(1))
        self.assertEqual(likelihood([(0, 0)]), Poly(1))

    def test_the_list_stays(self):
        ends = list(MANY)
        likelihood(ends)
        likeliest(ends)
        likely_shares(ends, (1, 2), 10)
        self.assertEqual(ends, MANY)


class LikeliestTest(unittest.TestCase):
    def test_by_hand(self):
        self.assertEqual(likeliest([(2, 1), (0, 3)]), (1, 3))
        self.assertEqual(likeliest([(3, 0)]), (1, 1))
        self.assertEqual(likeliest([(0, 5), (0, 1)]), (0, 1))
        self.assertEqual(likeliest(FORTY), (3, 4))
        self.assertIsNone(likeliest([]))
        self.assertIsNone(likeliest([(0, 0), (0, 0)]))

    def test_nowhere_is_the_likelihood_greater(self):
        for ends in ALL_ENDS:
            share = likeliest(ends)
            if share is not None:
                self.assertTrue(is_ratio(share))
                num, den = likelihood(ends)(share)
                self.assertTrue(den * likelihood(ends) <= num)
                for near in (Fraction(-1, 1000), Fraction(1, 1000)):
                    if 0 <= fraction(share) + near <= 1:
                        self.assertLess(fraction(likelihood(ends)(pair(fraction(share) + near))), Fraction(num, den))


class SharesTest(unittest.TestCase):
    def assert_map(self, ends, part, narrow):
        """Check the map by values, and return its signs."""
        found = likely_shares(ends, part, narrow)
        self.assertIs(type(found), list)
        poly, share = likelihood(ends), likeliest(ends)
        greatest = Fraction(1) if share is None else fraction(poly(share))
        limit = fraction(part) * greatest
        self.assertEqual((found[0][0], found[-1][1]), ((0, 1), (1, 1)))
        for (_, right, _), (left, _, _) in zip(found, found[1:]):
            self.assertEqual(right, left)
        for left, right, sign in found:
            left, right = fraction(left), fraction(right)
            self.assertLess(left, right)
            gaps = [value_of(poly.coefs, at) - limit for at in (left, (left + right) / 2, right)]
            if sign == 0:
                self.assertLessEqual((right - left) * narrow, 1)
                self.assertLess(gaps[0] * gaps[2], 0)
            else:
                self.assertTrue(all(sign * gap >= 0 for gap in gaps))
        return [sign for _, _, sign in found]

    def test_all_ends(self):
        for ends in ALL_ENDS:
            for part in ((0, 1), (1, 2), (1, 1), (1, 10 ** 30), (10 ** 30 - 1, 10 ** 30)):
                for narrow in NARROWS:
                    self.assert_map(ends, part, narrow)

    def test_it_is_a_sign_map(self):
        for ends in ALL_ENDS[3:]:
            most = likelihood(ends)(likeliest(ends))
            for part in ((1, 8), (2, 3), (1, 1)):
                gap = part[1] * most[1] * likelihood(ends) - part[0] * most[0]
                for left, right, sign in likely_shares(ends, part, 1000):
                    if not has_square(gap.coefs):
                        row = sign_row_by_hand(gap.coefs, left, right)
                        self.assertEqual(sign == 1, all(entry >= 0 for entry in row))
                        self.assertEqual(sign == -1, all(entry <= 0 for entry in row))
                self.assertEqual([piece[2] for piece in sign_map(gap, (0, 1), (1, 1), 1000)],
                                 [piece[2] for piece in likely_shares(ends, part, 1000)])

    def test_without_tries_all_shares_are_likely(self):
        for ends in ([], [(0, 0)]):
            for part in ((0, 1), (1, 2), (1, 1)):
                for narrow in NARROWS:
                    self.assertEqual({sign for _, _, sign in likely_shares(ends, part, narrow)}, {1})

    def test_part_0(self):
        for ends in ALL_ENDS:
            self.assertEqual(set(self.assert_map(ends, (0, 1), 10)), {1})

    def test_part_1(self):
        # Only at the likeliest share itself is the likelihood as great, and it is less beside it.
        for ends in ALL_ENDS[3:]:
            self.assertEqual(set(self.assert_map(ends, (1, 1), 10)), {-1})

    def test_wins_alone_and_losses_alone(self):
        for narrow in NARROWS:
            for wins, part, edge in ((2, (1, 4), Fraction(1, 2)), (3, (8, 27), Fraction(2, 3)),
                                     (1, (1, 3), Fraction(1, 3))):
                for ends, mirrored in (([(wins, 0)], False), ([(0, wins)], True)):
                    for left, right, sign in likely_shares(ends, part, narrow):
                        left, right = fraction(left), fraction(right)
                        if mirrored:
                            left, right = 1 - right, 1 - left
                        if sign == 1:
                            self.assertGreaterEqual(left, edge)
                        elif sign == -1:
                            self.assertLessEqual(right, edge)
                        else:
                            self.assertTrue(left < edge < right)

    def test_both_sides_of_the_likeliest_share(self):
        signs = self.assert_map([(2, 1), (0, 3)], (1, 2), 1000000)
        self.assertEqual((signs[0], signs[-1], signs.count(0)), (-1, -1, 2))
        self.assertIn(1, signs)

    def test_shares_of_many_digits(self):
        part = ratio(10 ** 999, 2 * 10 ** 999 + 1)
        self.assert_map(FORTY, part, 1000000)
        self.assert_map([(1, 2)], Poly.path(6, 1)(part), 1000)

    def test_lists_that_are_changed_change_nothing(self):
        ends = list(MANY)
        found = likely_shares(ends, (1, 2), 10)
        expected = list(found)
        found.clear()
        self.assertEqual(likely_shares(ends, (1, 2), 10), expected)


if __name__ == "__main__":
    unittest.main()
