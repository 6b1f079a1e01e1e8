"""The operators of point 7: sums, differences, products, powers and exact quotients."""

import random
import unittest

from lookstop.errors import NotExact, StopError
from lookstop.polys import Poly


def some_polys(seed, many, size, digits):
    chance = random.Random(seed)
    top = 10 ** digits
    return [Poly.of([chance.randrange(-top, top + 1) for _ in range(chance.randrange(size + 1))])
            for _ in range(many)]


def product_by_hand(p, q):
    total = {}
    for i, a in enumerate(p.coefs):
        for k, b in enumerate(q.coefs):
            total[i + k] = total.get(i + k, 0) + a * b
    return Poly.of([total.get(power, 0) for power in range(len(p) + len(q))])


class SumsTest(unittest.TestCase):
    def test_two_polynomials(self):
        p, q = Poly(1, 2, 3), Poly(4, -5)
        self.assertEqual((p + q).coefs, (5, -3, 3))
        self.assertEqual((q + p).coefs, (5, -3, 3))
        self.assertEqual((p - q).coefs, (-3, 7, 3))
        self.assertEqual((q - p).coefs, (3, -7, -3))

    def test_an_integer_on_either_side(self):
        p = Poly(1, 2, 3)
        self.assertEqual([(p + 4).coefs, (4 + p).coefs], [(5, 2, 3), (5, 2, 3)])
        self.assertEqual([(p - 4).coefs, (4 - p).coefs], [(-3, 2, 3), (3, -2, -3)])
        self.assertEqual([(p + 0).coefs, (0 + p).coefs, (p - 0).coefs], [(1, 2, 3)] * 3)
        self.assertEqual([(Poly() + 4).coefs, (4 - Poly()).coefs, (Poly() - 4).coefs], [(4,), (4,), (-4,)])

    def test_coefficients_that_cancel(self):
        self.assertEqual((Poly(1, 2, 3) + Poly(1, 5, -3)).coefs, (2, 7))
        self.assertEqual((Poly(1, 2, 3) - Poly(1, 2, 3)).coefs, ())
        self.assertEqual((Poly(1, 2, 3) - Poly(0, 2, 3)).coefs, (1,))
        self.assertEqual([(Poly(4) - 4).coefs, (4 - Poly(4)).coefs, (-4 + Poly(4)).coefs], [(), (), ()])

    def test_the_negative(self):
        self.assertEqual((-Poly(1, 0, -2)).coefs, (-1, 0, 2))
        self.assertEqual((-Poly()).coefs, ())

    def test_a_sum_of_a_list(self):
        self.assertEqual(sum([Poly(1), Poly(0, 1), Poly(2, 1)]).coefs, (3, 2))

    def test_many(self):
        polys = some_polys(7, 12, 8, 40)
        for p in polys:
            for q in polys:
                size = max(len(p), len(q))
                self.assertEqual(p + q, Poly.of([p[k] + q[k] for k in range(size)]))
                self.assertEqual(p - q, Poly.of([p[k] - q[k] for k in range(size)]))
                self.assertEqual(p - q, p + (-q))


class ProductsTest(unittest.TestCase):
    def test_two_polynomials(self):
        self.assertEqual((Poly(1, 1) * Poly(1, -1)).coefs, (1, 0, -1))
        self.assertEqual((Poly(1, 1) * Poly()).coefs, ())
        self.assertEqual((Poly() * Poly()).coefs, ())

    def test_an_integer_on_either_side(self):
        p = Poly(1, 0, -3)
        self.assertEqual([(p * 4).coefs, (4 * p).coefs, (p * -1).coefs], [(4, 0, -12), (4, 0, -12), (-1, 0, 3)])
        self.assertEqual([(p * 0).coefs, (0 * p).coefs, (Poly() * 5).coefs], [(), (), ()])

    def test_many(self):
        polys = some_polys(8, 12, 9, 40)
        for p in polys:
            for q in polys:
                self.assertEqual(p * q, product_by_hand(p, q))

    def test_great_products(self):
        p = Poly.of([10 ** 999 + k for k in range(41)])
        product = p * p * p * p * p * p
        self.assertEqual(product[0], (10 ** 999) ** 6)
        self.assertEqual(product // (p * p * p), p * p * p)


class PowersTest(unittest.TestCase):
    def test_powers(self):
        p = Poly(1, -2)
        expected = Poly(1)
        for exponent in range(12):
            self.assertEqual(p ** exponent, expected)
            expected = product_by_hand(expected, p)

    def test_the_power_zero(self):
        for p in (Poly(), Poly(5), Poly(0, 1), Poly(1, 2, 3)):
            self.assertEqual((p ** 0).coefs, (1,))

    def test_powers_of_zero_and_of_constants(self):
        self.assertEqual([(Poly() ** 1).coefs, (Poly() ** 9).coefs], [(), ()])
        self.assertEqual((Poly(-3) ** 101).coefs, ((-3) ** 101,))
        self.assertEqual((Poly(0, 1) ** 300).coefs, (0,) * 300 + (1,))


class InPlaceTest(unittest.TestCase):
    def test_the_old_polynomial_stays(self):
        p = old = Poly(1, 2)
        p += Poly(0, 0, 3)
        self.assertEqual([p.coefs, old.coefs], [(1, 2, 3), (1, 2)])
        p += 4
        self.assertEqual([p.coefs, old.coefs], [(5, 2, 3), (1, 2)])

    def test_the_other_operators(self):
        p = old = Poly(1, 2)
        p *= Poly(1, 1)
        self.assertEqual([p.coefs, old.coefs], [(1, 3, 2), (1, 2)])
        p *= 2
        self.assertEqual(p.coefs, (2, 6, 4))
        p -= 2
        self.assertEqual(p.coefs, (0, 6, 4))
        p //= 2
        self.assertEqual(p.coefs, (0, 3, 2))
        p **= 2
        self.assertEqual(p.coefs, (0, 0, 9, 12, 4))
        self.assertEqual(old.coefs, (1, 2))

    def test_an_integer_that_becomes_a_polynomial(self):
        total = 3
        total += Poly(0, 1)
        self.assertEqual(total.coefs, (3, 1))

    def test_a_polynomial_with_itself(self):
        p = Poly(1, 2)
        self.assertEqual([(p + p).coefs, (p - p).coefs, (p * p).coefs, (p // p).coefs, p.coefs],
                         [(2, 4), (), (1, 4, 4), (1,), (1, 2)])


class QuotientsTest(unittest.TestCase):
    def assert_not_exact(self, p, q):
        with self.assertRaises(NotExact) as caught:
            p // q
        self.assertIsInstance(caught.exception, StopError)

    def test_exact_quotients(self):
        self.assertEqual((Poly(1, 0, -1) // Poly(1, 1)).coefs, (1, -1))
        self.assertEqual((Poly(1, 0, -1) // Poly(-1, 1)).coefs, (-1, -1))
        self.assertEqual((Poly(6, 0, -9) // Poly(3)).coefs, (2, 0, -3))
        self.assertEqual((Poly(0, 0, 6) // Poly(0, 2)).coefs, (0, 3))

    def test_integers(self):
        self.assertEqual((Poly(6, 0, -9) // 3).coefs, (2, 0, -3))
        self.assertEqual((Poly(6, 0, -9) // -3).coefs, (-2, 0, 3))
        self.assertEqual((Poly(6, 0, -9) // 1).coefs, (6, 0, -9))

    def test_the_zero_polynomial(self):
        self.assertEqual((Poly() // Poly(2, 5)).coefs, ())
        self.assertEqual((Poly() // 7).coefs, ())

    def test_many(self):
        polys = [poly for poly in some_polys(9, 14, 9, 40) if len(poly) > 0]
        for p in polys:
            for q in polys:
                self.assertEqual(product_by_hand(p, q) // q, p)
                self.assert_not_exact(product_by_hand(p, q * q) + 1, q * q * Poly(0, 1))

    def test_a_remainder(self):
        self.assert_not_exact(Poly(2, 0, -1), Poly(1, 1))
        self.assert_not_exact(Poly(1), Poly(0, 1))
        self.assert_not_exact(Poly(1, 1), Poly(1, 1, 1))
        self.assert_not_exact(Poly(0, 1), Poly(1, 1))

    def test_a_coefficient_that_is_no_integer(self):
        self.assert_not_exact(Poly(1, 1), Poly(0, 2))
        self.assert_not_exact(Poly(1, 1), Poly(2, 2))
        self.assert_not_exact(Poly(6, 3), Poly(2))
        self.assert_not_exact(Poly(6, 3), 2)
        self.assert_not_exact(Poly(3, 6), -2)

    def test_a_zero_divisor(self):
        for p in (Poly(1, 1), Poly(4), Poly()):
            self.assert_not_exact(p, Poly())
            self.assert_not_exact(p, 0)

    def test_nothing_changes_when_it_fails(self):
        p, q = Poly(1, 1), Poly(0, 2)
        self.assert_not_exact(p, q)
        self.assertEqual([p.coefs, q.coefs], [(1, 1), (0, 2)])


class OtherKindsTest(unittest.TestCase):
    def test_other_kinds_are_refused(self):
        for other in ("1", None, (1, 2), [1], 0.5):
            for act in (lambda p, x: p + x, lambda p, x: x + p, lambda p, x: p - x, lambda p, x: x - p,
                        lambda p, x: p * x, lambda p, x: p // x, lambda p, x: p ** x,
                        lambda p, x: p <= x, lambda p, x: p >= x):
                with self.assertRaises(TypeError):
                    act(Poly(1, 2), other)


if __name__ == "__main__":
    unittest.main()
