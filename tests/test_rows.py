"""What stands behind the orders: common divisors and square factors of rows, and sign rows that are halved."""

import random
import unittest

from lookstop.halving import lower_half, unit_row, upper_half
from lookstop.polys import Poly
from lookstop.squares import common_divisor, primitive, split_row


def sign_row_by_hand(coefs, low, high, den):
    """The sign row on the stretch from low/den to high/den, as point 10 defines it."""
    top = len(coefs) - 1
    total = Poly()
    for power, coef in enumerate(coefs):
        total += coef * Poly(low, high) ** power * Poly(den, den) ** (top - power)
    return [total[power] for power in range(len(coefs))]


class SquaresTest(unittest.TestCase):
    def test_primitive_rows(self):
        self.assertEqual(primitive((6, 0, -4)), (-3, 0, 2))
        self.assertEqual(primitive((-6, 4)), (-3, 2))
        self.assertEqual(primitive(()), ())

    def test_common_divisors(self):
        chance = random.Random(12)
        for _ in range(200):
            a, b, c = (Poly.of([chance.randrange(-50, 51) for _ in range(chance.randrange(1, 6))] + [1])
                       for _ in range(3))
            found = Poly.of(common_divisor((6 * a * c).coefs, (-4 * b * c).coefs))
            self.assertEqual(((a * c) // found) * found, a * c)
            self.assertEqual(((b * c) // found) * found, b * c)
            self.assertEqual((found // c) * c, found)
            self.assertGreater(found.coefs[-1], 0)

    def test_a_common_divisor_by_chance(self):
        # At the first base, 4, the values are 4 and 8, and 4 is what the share itself has there.
        self.assertEqual(common_divisor((0, 1), (4, 1)), (1,))
        # At every base both values are even, though no polynomial but 1 divides both.
        self.assertEqual(common_divisor((0, 1, 1), (2, 1, 1)), (1,))
        many = 2 * 3 * 5 * 7 * 11 * 13
        falling = Poly(1)
        for k in range(14):
            falling = falling * Poly(k, 1)
        self.assertEqual(common_divisor(falling.coefs, (falling + many).coefs), (1,))

    def test_splits(self):
        chance = random.Random(13)
        for _ in range(100):
            parts = [Poly.of([chance.randrange(-20, 21) for _ in range(chance.randrange(1, 4))] + [1])
                     for _ in range(3)]
            poly = -12 * parts[0] * parts[1] ** 2 * parts[2] ** 3
            rest, root = map(Poly.of, split_row(poly.coefs))
            self.assertEqual(rest * root * root, poly)
            self.assertEqual(common_divisor(rest.coefs, rest.derivative().coefs) if len(rest) > 1 else (1,), (1,))
            self.assertEqual((root // (parts[1] * parts[2])) * (parts[1] * parts[2]), root)

    def test_splits_by_hand(self):
        self.assertEqual(split_row(()), ((), (1,)))
        self.assertEqual(split_row((-12,)), ((-12,), (1,)))
        self.assertEqual(split_row((0, 2, -4, 2)), ((0, 2), (-1, 1)))
        self.assertEqual(split_row((Poly(-2, 4) ** 5).coefs), ((-32, 64), (1, -4, 4)))


class SignRowsTest(unittest.TestCase):
    def some_rows(self):
        chance = random.Random(14)
        return [tuple(chance.randrange(-99, 100) for _ in range(size)) + (1,) for size in range(9)]

    def test_on_the_whole_stretch(self):
        for row in self.some_rows():
            self.assertEqual(unit_row(row), sign_row_by_hand(row, 0, 1, 1))
        self.assertEqual(unit_row(()), [])

    def test_on_halves(self):
        for row in self.some_rows():
            self.assertEqual(lower_half(unit_row(row)), sign_row_by_hand(row, 0, 1, 2))
            self.assertEqual(upper_half(unit_row(row)), sign_row_by_hand(row, 1, 2, 2))

    def test_on_a_half_of_a_half(self):
        for row in self.some_rows():
            found = upper_half(lower_half(unit_row(row)))
            expected = sign_row_by_hand(row, 1, 2, 4)
            self.assertEqual([entry * abs(expected[0]) for entry in found],
                             [entry * abs(found[0]) for entry in expected])


if __name__ == "__main__":
    unittest.main()
