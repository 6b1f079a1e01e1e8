"""What stands behind the orders and decisions: common divisors, square factors, sign rows, and pieces of stretches."""

import random
import unittest
from math import comb

from lookstop.parting import ends_of, narrowed, parted
from lookstop.polys import Poly
from lookstop.squares import PRIME, common_divisor, primitive, share_nothing, split_row
from lookstop.stretches import (changes_in, first_sign, last_sign, lower_half, part_signs, point_on, signs_on,
                                unit_row, unit_signs, upper_half)
from tests.checks import fraction, sign_row_by_hand


class SquaresTest(unittest.TestCase):
    def test_primitive_rows(self):
        self.assertEqual(primitive((6, 0, -4)), (-3, 0, 2))
        self.assertEqual(primitive((-6, 4)), (-3, 2))
        self.assertEqual(primitive((3, -1)), (-3, 1))
        self.assertEqual(primitive((3, 0, 1)), (3, 0, 1))
        self.assertEqual(primitive(()), ())

    def test_common_divisors(self):
        chance = random.Random(12)
        for _ in range(200):
            a, b, c = (Poly.of([chance.randrange(-50, 51) for _ in range(chance.randrange(1, 6))] + [1])
                       for _ in range(3))
            found = Poly.of(common_divisor((6 * a * c).coefs, (-4 * b * c).coefs))
            self.assertEqual(((a * c) // found) * found, a * c)
            self.assertEqual(((b * c) // found) * found, b * c)
            self.assertEqual((found // c) * c, found)
            self.assertGreater(found.coefs[-1], 0)

    def test_a_common_divisor_by_chance(self):
        shared = Poly(1, 2)
        # At the first base, 8, the values are 8 and 16 times that of `shared`: what the share itself has there, too.
        self.assertEqual(common_divisor((shared * Poly(0, 1)).coefs, (shared * Poly(8, 1)).coefs), (1, 2))
        # At every base both values are even, though no polynomial but `shared` divides both.
        self.assertEqual(common_divisor((shared * Poly(0, 1, 1)).coefs, (shared * Poly(2, 1, 1)).coefs), (1, 2))
        many = 2 * 3 * 5 * 7 * 11 * 13
        falling = Poly(1)
        for k in range(14):
            falling = falling * Poly(k, 1)
        self.assertEqual(common_divisor((shared * falling).coefs, (shared * (falling + many)).coefs), (1, 2))
        self.assertEqual(common_divisor(falling.coefs, (falling + many).coefs), (1,))

    def test_remainders_show_that_nothing_is_shared(self):
        chance = random.Random(15)
        for _ in range(100):
            a, b, c = (Poly.of([chance.randrange(-50, 51) for _ in range(chance.randrange(1, 6))] + [1])
                       for _ in range(3))
            self.assertFalse(share_nothing((a * c).coefs, (b * c).coefs))
        self.assertTrue(share_nothing((0, 1), (1, 1)))
        self.assertTrue(share_nothing((5,), (0, 0, 7)))
        self.assertTrue(share_nothing((-1, 0, 2), (0, 4)))

    def test_where_remainders_show_nothing(self):
        # The prime divides the last coefficient, all coefficients, or the difference.
        for first, second in (((1, PRIME), (1, 1)), ((PRIME, 1), (0, 1)), ((3, 1), (3 + PRIME, 1)),
                              ((1, 2), (PRIME, 2 * PRIME))):
            self.assertFalse(share_nothing(first, second))
        self.assertEqual(common_divisor((1, PRIME), (1, 1)), (1,))
        self.assertEqual(common_divisor((PRIME, 1), (0, 1)), (1,))
        self.assertEqual(common_divisor((1, 2, PRIME), (2, 4, 2 * PRIME)), (1, 2, PRIME))
        self.assertEqual(split_row((Poly(1, PRIME) ** 2).coefs), ((1,), (1, PRIME)))
        self.assertEqual(split_row((Poly(0, 1) * Poly(-PRIME, 1)).coefs), ((0, -PRIME, 1), (1,)))

    def test_splits(self):
        chance = random.Random(13)
        for _ in range(100):
            parts = [Poly.of([chance.randrange(-20, 21) for _ in range(chance.randrange(1, 4))] + [1])
                     for _ in range(3)]
            poly = -12 * parts[0] * parts[1] ** 2 * parts[2] ** 3
            rest, root = map(Poly.of, split_row(poly.coefs))
            self.assertEqual(rest * root * root, poly)
            self.assertEqual(common_divisor(rest.coefs, rest.derivative().coefs) if len(rest) > 1 else (1,), (1,))
            self.assertEqual((root // (parts[1] * parts[2])) * (parts[1] * parts[2]), root)

    def test_splits_by_hand(self):
        self.assertEqual(split_row(()), ((), (1,)))
        self.assertEqual(split_row((-12,)), ((-12,), (1,)))
        self.assertEqual(split_row((0, 2, -4, 2)), ((0, 2), (-1, 1)))
        self.assertEqual(split_row((Poly(-2, 4) ** 5).coefs), ((-32, 64), (1, -4, 4)))


class SignRowsTest(unittest.TestCase):
    def some_rows(self):
        chance = random.Random(14)
        return [tuple(chance.randrange(-99, 100) for _ in range(size)) + (1,) for size in range(9)]

    def assert_same_up_to_a_factor(self, found, expected):
        self.assertEqual([entry * abs(expected[0]) for entry in found], [entry * abs(found[0]) for entry in expected])
        self.assertEqual(found[0] > 0, expected[0] > 0)

    def test_on_the_whole_stretch(self):
        for row in self.some_rows():
            signs = sign_row_by_hand(row, (0, 1), (1, 1))
            self.assertEqual(unit_signs(row), signs)
            self.assertEqual(signs_on(row, (0, 1), (1, 1)), signs)
            self.assertEqual(unit_row(signs), list(row))

    def test_on_halves(self):
        for row in self.some_rows():
            self.assertEqual(lower_half(unit_signs(row)), sign_row_by_hand(row, (0, 1), (1, 2)))
            self.assertEqual(upper_half(unit_signs(row)), sign_row_by_hand(row, (1, 2), (1, 1)))

    def test_on_a_half_of_a_half(self):
        for row in self.some_rows():
            found = upper_half(lower_half(unit_signs(row)))
            self.assert_same_up_to_a_factor(found, sign_row_by_hand(row, (1, 4), (1, 2)))

    def test_on_a_part(self):
        for row in self.some_rows():
            whole = signs_on(row, (0, 1), (1, 1))
            for start, length, places in ((0, 2, 1), (0, 2, 4), (5, 2, 4), (14, 2, 4), (3, 7, 5), (77777, 1, 20)):
                left, right = ((start, 2 ** places), (start + length, 2 ** places))
                found = part_signs(whole, start, length, places)
                self.assertEqual(found, sign_row_by_hand(row, left, right))
                whole_there = signs_on(row, (-1, 3), (7, 5))
                left = point_on((-1, 3), (7, 5), start, places)
                right = point_on((-1, 3), (7, 5), start + length, places)
                found = part_signs(whole_there, start, length, places)
                self.assert_same_up_to_a_factor(found, sign_row_by_hand(row, left, right))

    def test_on_a_point(self):
        for row in self.some_rows():
            found = part_signs(signs_on(row, (0, 1), (1, 1)), 5, 0, 3)
            value = Poly.of(row)((5, 8))
            degree = len(row) - 1
            self.assertEqual(found, [comb(degree, k) * value[0] * 8 ** degree // value[1] for k in range(degree + 1)])

    def test_points_on_a_stretch(self):
        self.assertEqual([point_on((1, 3), (1, 2), steps, 1) for steps in range(3)], [(1, 3), (5, 12), (1, 2)])
        self.assertEqual([point_on((1, 2), (-1, 2), steps, 2) for steps in range(3)], [(1, 2), (1, 4), (0, 1)])

    def test_signs_beside_the_ends(self):
        for signs, first, last in (([], 0, 0), ([0, 0], 0, 0), ([0, 2, -1, 0], 1, -1), ([-3], -1, -1)):
            self.assertEqual((first_sign(signs), last_sign(signs)), (first, last))


class PartingTest(unittest.TestCase):
    def assert_pieces(self, row, low, high):
        """Check that the pieces follow each other, that their rows are right and have at most one change."""
        end = low
        changes = 0
        for piece in parted(row, low, high):
            left, right = ends_of(piece, low, high)
            self.assertEqual(left, end)
            end = right
            expected = sign_row_by_hand(row, left, right)
            found = piece[3]
            self.assertLess(changes_in(found), 2)
            self.assertEqual([first_sign(found), changes_in(found), last_sign(found)],
                             [first_sign(expected), changes_in(expected), last_sign(expected)])
            changes += changes_in(found)
        self.assertEqual(end, high)
        return changes

    def test_roots_apart_and_close_together(self):
        for low, high in (((0, 1), (1, 1)), ((-5, 3), (9, 7))):
            self.assertEqual(self.assert_pieces((Poly(-1, 3) * Poly(-2, 3)).coefs, low, high), 2)
            for digits in (2, 10, 40, 160):
                place = Poly(-(10 ** digits // 7), 10 ** digits)
                self.assertEqual(self.assert_pieces((place * place - 1).coefs, low, high), 2)
                self.assertEqual(self.assert_pieces((place * (place - 1) * (place + 2)).coefs, low, high), 3)
                self.assertEqual(self.assert_pieces((place * place + 1).coefs, low, high), 0)

    def test_few_pieces_for_roots_that_agree_in_many_digits(self):
        place = Poly(-(10 ** 900 // 7), 10 ** 900)
        self.assertLess(len(parted((place * place - 1).coefs, (0, 1), (1, 1))), 60)

    def test_narrowing_to_a_root(self):
        for poly in (Poly(-1, 0, 2), Poly(-1, 3), Poly(-3, 8), Poly(0, -1, 10 ** 30)):
            row = poly.coefs
            for narrow in (1, 1000, 10 ** 6, 10 ** 200):
                for piece in parted(row, (0, 1), (1, 1)):
                    if changes_in(piece[3]) == 1:
                        left, right = narrowed(piece, (0, 1), (1, 1), narrow)
                        if left == right:
                            self.assertEqual(poly(left), (0, 1))
                        else:
                            self.assertLess(poly(left)[0] * poly(right)[0], 0)
                            self.assertLessEqual((fraction(right) - fraction(left)) * narrow, 1)


if __name__ == "__main__":
    unittest.main()
