"""Point 9: `<=` and `>=` at all shares from 0 to 1."""

import random
import unittest
from fractions import Fraction

from lookstop.polys import Poly
from lookstop.signs import decide


def orders(p, q):
    return [p <= q, p >= q]


def point(num, den):
    """The polynomial with the only root num/den."""
    return Poly(-num, den)


class OrderTest(unittest.TestCase):
    def assert_positive_product(self, factors, sign, holds):
        poly = Poly(sign)
        for factor in factors:
            poly = poly * factor
        self.assertEqual([poly >= 0, 0 <= poly, -poly <= 0, 0 >= -poly], [holds] * 4, poly)

    def test_by_hand(self):
        p = Poly.path(1, 1)
        self.assertEqual(orders(p, 1), [True, False])
        self.assertEqual(orders(p, Poly(0, 1)), [True, False])
        self.assertEqual(orders(Poly(0, 1), p), [False, True])
        self.assertEqual(orders(Poly(0, 2), 1), [False, False])

    def test_results_are_booleans(self):
        for p, q in ((Poly(1), Poly(2)), (Poly(0, 1), 3), (Poly(0, 2), 1), (Poly(), 0)):
            self.assertTrue(all(answer is True or answer is False for answer in orders(p, q) + orders(q, p)))

    def test_an_integer_on_either_side(self):
        p = Poly(1, 1)
        self.assertEqual([p <= 2, p <= 1, p >= 1, p >= 2], [True, False, True, False])
        self.assertEqual([2 >= p, 1 >= p, 1 <= p, 2 <= p], [True, False, True, False])
        self.assertEqual([3 >= p, 3 <= p, -1 >= p, -1 <= p], [True, False, False, True])

    def test_equal_polynomials_and_constants(self):
        for p in (Poly(), Poly(4), Poly(-4), Poly(3, -7, 2)):
            self.assertEqual(orders(p, p), [True, True])
        self.assertEqual(orders(Poly(4), 4), [True, True])
        self.assertEqual(orders(Poly(4), 5), [True, False])
        self.assertEqual(orders(Poly(), 0), [True, True])
        self.assertEqual(orders(Poly(), -1), [False, True])

    def test_only_the_shares_from_0_to_1_count(self):
        self.assertEqual(orders(Poly(0, 1), 1), [True, False])
        self.assertEqual(orders(Poly(0, 1), 0), [False, True])
        self.assertEqual(orders(point(3, 2), 0), [True, False])
        self.assertEqual(orders(point(-1, 2), 0), [False, True])

    def test_the_ends_count(self):
        tiny = 10 ** 40
        self.assertEqual(orders(Poly(-1, tiny), 0), [False, False])
        self.assertEqual(orders(Poly(tiny, -tiny - 1), 0), [False, False])
        self.assertEqual(orders(Poly(0, -1, tiny), 0), [False, False])
        self.assertEqual(orders(Poly(0, tiny, -tiny), 0), [False, True])

    def test_touching_without_crossing(self):
        for num, den in ((1, 2), (1, 3), (2, 3), (0, 1), (1, 1), (10 ** 30 + 1, 3 * 10 ** 30), (1, 10 ** 60)):
            square = point(num, den) ** 2
            self.assertEqual(orders(square, 0), [False, True])
            self.assertEqual(orders(-square, 0), [True, False])
            self.assertEqual(orders(square * square, 0), [False, True])
            self.assertEqual(orders(square * Poly.path(2, 3) + 5, 5), [False, True])
        self.assertEqual(orders(4 * Poly.path(1, 1), 1), [True, False])
        self.assertEqual(orders(4 ** 15 * Poly.path(15, 15), 1), [True, False])

    def test_touching_where_the_share_is_no_ratio(self):
        square = Poly(-1, 0, 2) ** 2
        self.assertEqual(orders(square, 0), [False, True])
        self.assertEqual(orders(square * Poly(-1, 0, 3) ** 4, 0), [False, True])
        self.assertEqual(orders(square * Poly(-1, 0, 3) ** 3, 0), [False, False])

    def test_crossing_with_a_repeated_factor(self):
        self.assertEqual(orders(point(1, 2) ** 3, 0), [False, False])
        self.assertEqual(orders(point(1, 3) ** 5 * Poly(1, 1), 0), [False, False])
        self.assertEqual(orders(point(1, 3) ** 2 * point(1, 2), 0), [False, False])
        self.assertEqual(orders(Poly(0, 1) ** 3, 0), [False, True])
        self.assertEqual(orders(Poly(0, 1) ** 3 * point(1, 1) ** 3, 0), [True, False])

    def test_a_very_short_part(self):
        for digits in (10, 50, 300):
            square = point(3 * 10 ** (digits - 1) + 7, 10 ** digits) ** 2
            self.assertEqual(orders(square - 1, 0), [False, False])
            self.assertEqual(orders(square, 0), [False, True])
            self.assertEqual(orders(square + 1, 0), [False, True])
            self.assertEqual(orders(1 - square, 0), [False, False])

    def test_a_very_short_part_with_a_great_degree(self):
        square = point(3 * 10 ** 39 + 7, 10 ** 40) ** 2
        other = Poly(1, 3) ** 19 + Poly(0, 1) ** 38
        self.assertEqual(orders((square - 1) * other, 0), [False, False])
        self.assertEqual(orders(square * other, 0), [False, True])
        self.assertEqual(orders((square + 1) * other, 0), [False, True])
        near = Poly(0, 1) ** 40 - 2 * Poly(-1, 100) ** 2
        self.assertEqual(orders(near, 0), [False, False])

    def test_coming_near_without_touching(self):
        self.assertEqual(orders(Poly(1, -3, 3), 0), [False, True])
        self.assertEqual(orders(Poly(1, -2 * 10 ** 9, 10 ** 18 + 1), 0), [False, True])
        self.assertEqual(orders(Poly(0, 1, -3, 3), 0), [False, True])

    def test_a_short_part_beside_an_end(self):
        great = 10 ** 100
        self.assertEqual(orders(Poly(0, 1) * Poly(-1, great), 0), [False, False])
        self.assertEqual(orders(Poly(0, 1) * Poly(1, great), 0), [False, True])
        self.assertEqual(orders(Poly(1, -1) * Poly(great, -great - 1), 0), [False, False])
        self.assertEqual(orders(Poly(1, -1) * Poly(great + 1, -great), 0), [False, True])

    def test_products_of_known_factors(self):
        chance = random.Random(10)
        for _ in range(400):
            factors = []
            roots = {}
            for _ in range(chance.randrange(5)):
                den = chance.randrange(1, 40)
                num = chance.randrange(-den, 2 * den + 1)
                many = chance.randrange(1, 4)
                factors += [point(num, den)] * many
                roots[Fraction(num, den)] = roots.get(Fraction(num, den), 0) + many
            crossing = any(many % 2 == 1 and 0 < root < 1 for root, many in roots.items())
            # A factor with its root at 1 or beyond is negative at the shares below 1.
            sign = (-1) ** sum(many for root, many in roots.items() if root >= 1)
            for _ in range(chance.randrange(3)):
                a, b = chance.randrange(1, 30), chance.randrange(-30, 30)
                factors += [Poly(b * b + chance.randrange(1, 3), -2 * a * b, a * a)] * chance.randrange(1, 3)
            chance.shuffle(factors)
            self.assert_positive_product(factors, sign * chance.randrange(1, 9), not crossing)
            self.assert_positive_product(factors, -sign, False)

    def test_great_degrees_and_great_numbers(self):
        chance = random.Random(11)
        half = Poly.of([chance.randrange(-10 ** 400, 10 ** 400) for _ in range(21)])
        self.assertEqual(orders(half * half, 0), [False, True])
        self.assertEqual(orders(half ** 2 * Poly(1, 1), 0), [False, True])
        p = Poly.of([chance.randrange(-10 ** 900, 10 ** 900) for _ in range(41)])
        q = p + 1
        self.assertEqual(orders(p, q), [True, False])
        self.assertEqual(orders(p, q - Poly(0, 0, 0, 1)), [True, False])
        self.assertEqual(orders(p, q - Poly(0, 0, 0, 2)), [False, False])

    def test_results_of_any_length_may_be_compared(self):
        p = Poly.of([10 ** 999 + k for k in range(6)]) ** 6
        self.assertEqual(orders(p, p + 1), [True, False])
        self.assertEqual(orders(p * Poly(-1, 2) ** 2, 0), [False, True])

    def test_orders_are_what_deciding_says(self):
        chance = random.Random(16)
        seen = set()
        for _ in range(300):
            p = Poly.of([chance.randrange(-9, 10) for _ in range(chance.randrange(5))]) ** chance.randrange(1, 3)
            q = p + chance.choice((1, -1)) * point(chance.randrange(-2, 6), 4) ** chance.randrange(1, 4)
            found = orders(p, q)
            self.assertEqual(found, [decide(q - p, (0, 1), (1, 1))[0] == "holds",
                                     decide(p - q, (0, 1), (1, 1))[0] == "holds"])
            seen.add(tuple(found))
        self.assertEqual(seen, {(False, False), (False, True), (True, False)})

    def test_nothing_is_changed(self):
        p, q = Poly(0, 1, -1), Poly(0, 1)
        orders(p, q)
        self.assertEqual([p.coefs, q.coefs], [(0, 1, -1), (0, 1)])


if __name__ == "__main__":
    unittest.main()
