"""Points 10 to 12: sign rows, sign changes, and squares that divide a polynomial."""

import random
import unittest
from fractions import Fraction
from math import gcd

from lookstop.polys import Poly
from lookstop.signs import sign_changes, sign_row, split_square
from tests.checks import changes_by_hand, has_square, sign_row_by_hand

STRETCHES = (((0, 1), (1, 1)), ((0, 1), (1, 3)), ((1, 3), (1, 2)), ((-3, 2), (-1, 7)), ((-1, 2), (5, 4)),
             ((7, 5), (13, 6)), ((-4, 1), (9, 1)), ((10 ** 60, 10 ** 61 + 1), (10 ** 60 + 1, 10 ** 61 - 1)))


class SignRowTest(unittest.TestCase):
    def test_by_hand(self):
        self.assertEqual(sign_row(Poly(1, 0, -4), (0, 1), (1, 3)), [9, 18, 5])
        # 3 - 2s with s from 1/2 to 2/3, in sixths: 3 (6 + 6x) - 2 (3 + 4x).
        self.assertEqual(sign_row(Poly(3, -2), (1, 2), (2, 3)), [12, 10])
        self.assertEqual(sign_row(Poly(0, 1), (-1, 2), (2, 1)), [-1, 4])

    def test_the_zero_polynomial_and_constants(self):
        for low, high in STRETCHES:
            self.assertEqual(sign_row(Poly(), low, high), [])
            self.assertEqual(sign_row(Poly(7), low, high), [7])
            self.assertEqual(sign_row(Poly(-7), low, high), [-7])

    def test_as_the_document_defines_it(self):
        chance = random.Random(20)
        for size in (2, 3, 4, 8, 15):
            for low, high in STRETCHES:
                poly = Poly.of([chance.randrange(-99, 100) for _ in range(size)] + [chance.choice((-3, 1))])
                row = sign_row(poly, low, high)
                self.assertIs(type(row), list)
                self.assertEqual(row, sign_row_by_hand(poly.coefs, low, high))

    def test_great_degrees_and_great_numbers(self):
        chance = random.Random(21)
        for degree, digits in ((32, 30), (33, 10), (40, 999)):
            top = 10 ** digits
            poly = Poly.of([chance.randrange(-top, top) for _ in range(degree)] + [1])
            for low, high in (((0, 1), (1, 1)), ((-1, 3), (2, 7)), ((3, 10 ** 40), (1, 2))):
                self.assertEqual(sign_row(poly, low, high), sign_row_by_hand(poly.coefs, low, high))

    def test_zeros_in_the_row_stay(self):
        self.assertEqual(sign_row(Poly(0, 1, -1), (0, 1), (1, 1)), [0, 1, 0])
        self.assertEqual(sign_row(Poly(1, -4, 4), (1, 2), (1, 1)), [0, 0, 4])
        self.assertEqual(sign_row(Poly(0, 0, 0, 1), (0, 1), (1, 1)), [0, 0, 0, 1])

    def test_a_row_that_is_changed_changes_nothing(self):
        poly = Poly(1, 0, -4)
        for given in (poly, Poly()):
            row = sign_row(given, (0, 1), (1, 3))
            expected = list(row)
            row.append(5)
            row[0] = 77
            self.assertEqual(sign_row(given, (0, 1), (1, 3)), expected)
        self.assertEqual(poly.coefs, (1, 0, -4))


class SignChangesTest(unittest.TestCase):
    def test_by_hand(self):
        for row, expected in (([], 0), ([0], 0), ([0, 0, 0], 0), ([5], 0), ([-5], 0), ([1, 2, 3], 0), ([-1, -2], 0),
                              ([1, -1], 1), ([-1, 1], 1), ([3, 0, -1, 0, 2], 2), ([0, 0, 4, 0, 0, -4, 0], 1),
                              ([0, 1, 0, 0, 2, 0], 0), ([1, -1, 1, -1, 1], 4), ([-2, 0, 0, -1, 3, 3, 0, -1], 2)):
            self.assertEqual(sign_changes(row), expected, row)

    def test_great_numbers(self):
        great = 10 ** 999
        self.assertEqual(sign_changes([great, -great, 0, -1, 1, great]), 2)
        self.assertEqual(sign_changes([10 ** 50000, -1]), 1)

    def test_the_list_stays(self):
        row = [0, 3, 0, -1, 0]
        sign_changes(row)
        self.assertEqual(row, [0, 3, 0, -1, 0])

    def test_many_rows(self):
        chance = random.Random(22)
        for _ in range(300):
            row = [chance.randrange(-2, 3) for _ in range(chance.randrange(12))]
            self.assertEqual(sign_changes(row), changes_by_hand(row))


class SplitSquareTest(unittest.TestCase):
    def assert_split(self, poly):
        answer = split_square(poly)
        self.assertIs(type(answer), tuple)
        rest, root = answer
        self.assertIsInstance(rest, Poly)
        self.assertIsInstance(root, Poly)
        self.assertEqual(rest * root * root, poly)
        self.assertEqual(gcd(*root.coefs), 1)
        self.assertGreater(root.coefs[-1], 0)
        if len(rest) > 1:
            self.assertFalse(has_square(rest.coefs), poly)
        return rest, root

    def test_by_hand(self):
        for poly, rest, root in (
                (Poly(0, 2, -4, 2), (0, 2), (-1, 1)),
                (Poly(1, -4, 4), (1,), (-1, 2)),
                (Poly(-1, 4, -4), (-1,), (-1, 2)),
                (Poly(-12, 0, 0), (-12,), (1,)),
                (Poly(0, 0, 9), (9,), (0, 1)),
                (Poly(0, 0, 0, -9), (0, -9), (0, 1)),
                (Poly(-2, 4) ** 5, (-32, 64), (1, -4, 4)),
                (Poly(-1, 0, 2) ** 2, (1,), (-1, 0, 2)),
                (-6 * Poly(1, 1) ** 6, (-6,), (1, 3, 3, 1))):
            found = self.assert_split(poly)
            self.assertEqual((found[0].coefs, found[1].coefs), (rest, root))

    def test_constants_and_the_zero_polynomial(self):
        for poly in (Poly(), Poly(1), Poly(-1), Poly(36), Poly(-10 ** 999)):
            rest, root = split_square(poly)
            self.assertEqual((rest, root), (poly, Poly(1)))

    def test_a_square_integer_in_front_stays_in_the_rest(self):
        rest, root = self.assert_split(Poly(4, 0, 36))
        self.assertEqual((rest, root), (Poly(4, 0, 36), Poly(1)))

    def test_products_of_linear_and_quadratic_factors(self):
        chance = random.Random(23)
        for _ in range(150):
            poly = Poly(chance.choice((-1, 1)) * chance.randrange(1, 50))
            for _ in range(chance.randrange(1, 5)):
                size = chance.randrange(1, 3)
                factor = Poly.of([chance.randrange(-30, 31) for _ in range(size)] + [chance.randrange(1, 30)])
                poly = poly * factor ** chance.choice((1, 2, 3))
            self.assert_split(poly)

    def test_exponents_of_known_factors(self):
        chance = random.Random(24)
        for _ in range(60):
            factors = [Poly(-chance.randrange(1, 40), 41), Poly(chance.randrange(1, 40), 43), Poly(3, 1, 47)]
            exponents = [chance.choice((0, 1, 2, 3, 4)) for _ in factors]
            poly, rest, root = Poly(-5), Poly(-5), Poly(1)
            for factor, many in zip(factors, exponents):
                poly = poly * factor ** many
                rest = rest * factor ** (many % 2)
                root = root * factor ** (many // 2)
            self.assertEqual(split_square(poly), (rest, root))

    def test_great_degrees_and_great_numbers(self):
        chance = random.Random(25)
        top = 10 ** 330
        parts = [Poly.of([chance.randrange(-top, top) for _ in range(size)] + [1]) for size in (13, 13, 6)]
        rest, root = split_square(parts[0] ** 2 * parts[1])
        self.assertEqual((rest, root), (parts[1], parts[0]))
        self.assertEqual(split_square(parts[0] ** 3)[1], parts[0])
        self.assertEqual(split_square(-3 * parts[2] ** 6), (Poly(-3), parts[2] ** 3))

    def test_a_factor_with_a_root_between_great_ratios(self):
        point = Poly(-(10 ** 400 + 7), 3 * 10 ** 400)
        rest, root = self.assert_split(7 * point ** 2 * Poly(1, 1))
        self.assertEqual((rest, root), (Poly(7, 7), point))


class WidthTest(unittest.TestCase):
    def test_values_at_the_ends(self):
        # The first and the last entry of a row are the values at the ends times d^n.
        chance = random.Random(26)
        for low, high in STRETCHES[:-1]:
            poly = Poly.of([chance.randrange(-99, 100) for _ in range(6)] + [1])
            row = sign_row(poly, low, high)
            den = low[1] * high[1] // gcd(low[1], high[1])
            self.assertEqual(Fraction(*poly(low)) * den ** 6, row[0])
            self.assertEqual(Fraction(*poly(high)) * den ** 6, row[-1])


if __name__ == "__main__":
    unittest.main()
