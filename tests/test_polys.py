"""Polynomials: points 5, 6 and 8, what a polynomial is, shows and is equal to."""

import random
import unittest
from fractions import Fraction
from math import comb

from lookstop.polys import Poly


def value_of(coefs, at):
    return sum((coef * at ** power for power, coef in enumerate(coefs)), Fraction(0))


class MakingTest(unittest.TestCase):
    def test_coefs(self):
        self.assertEqual(Poly(1, 0, -2).coefs, (1, 0, -2))
        self.assertIs(type(Poly(1, 0, -2).coefs), tuple)

    def test_zeros_behind_the_last_coefficient(self):
        self.assertEqual(Poly(1, -2, 1, 0).coefs, (1, -2, 1))
        self.assertEqual(Poly(0, 3, 0, 0, 0).coefs, (0, 3))
        self.assertEqual(Poly.of([0, 3, 0, 0]).coefs, (0, 3))

    def test_the_zero_polynomial(self):
        for zero in (Poly(), Poly(0), Poly(0, 0, 0), Poly.of([]), Poly.of(()), Poly.of([0, 0])):
            self.assertEqual((zero.coefs, zero.degree, len(zero)), ((), -1, 0))
            self.assertEqual([zero[0], zero[7]], [0, 0])
            self.assertEqual(list(zero), [])
            self.assertEqual(zero.derivative().coefs, ())

    def test_lists_and_tuples(self):
        self.assertEqual(Poly.of([1, 2, 3]).coefs, (1, 2, 3))
        self.assertEqual(Poly.of((1, 2, 3)).coefs, (1, 2, 3))
        self.assertIsInstance(Poly.of([1]), Poly)

    def test_a_list_that_is_changed_afterwards(self):
        given = [1, 2, 3, 0]
        poly = Poly.of(given)
        self.assertEqual(given, [1, 2, 3, 0])
        given[0] = 9
        given.append(5)
        self.assertEqual(poly.coefs, (1, 2, 3))

    def test_many_coefficients(self):
        self.assertEqual(Poly.of([1] * 2000).degree, 1999)


class ReadingTest(unittest.TestCase):
    def test_degree_and_length(self):
        self.assertEqual([Poly(5).degree, Poly(0, 0, 5).degree, Poly(1, -2, 1, 0).degree], [0, 2, 2])
        self.assertEqual([len(Poly(5)), len(Poly(0, 0, 5)), len(Poly(1, -2, 1, 0))], [1, 3, 3])

    def test_index(self):
        poly = Poly(4, 0, -6)
        self.assertEqual([poly[0], poly[1], poly[2]], [4, 0, -6])
        self.assertEqual([poly[3], poly[4], poly[10 ** 30]], [0, 0, 0])

    def test_numbers_a_little_beyond_the_limits_raise_nothing(self):
        poly = Poly(4, 0, -6)
        self.assertEqual([poly[-1], poly[-4], Poly()[-1]], [0, 0, 0])
        for made in (Poly.path(-1, 2), Poly.path(2, -1), poly ** -1):
            self.assertIsInstance(made, Poly)

    def test_iteration(self):
        poly = Poly(4, 0, -6, 0)
        self.assertEqual(list(poly), [4, 0, -6])
        self.assertEqual([coef for coef in poly], [4, 0, -6])
        self.assertEqual(list(zip(poly, poly)), [(4, 4), (0, 0), (-6, -6)])

    def test_repr(self):
        self.assertEqual(repr(Poly(1, 0, -2)), "Poly(1, 0, -2)")
        self.assertEqual(repr(Poly(1, 0, -2, 0)), "Poly(1, 0, -2)")
        self.assertEqual(repr(Poly()), "Poly()")
        self.assertEqual(repr(Poly(0)), "Poly()")
        self.assertEqual(repr(Poly(-7)), "Poly(-7)")
        self.assertEqual(repr(Poly(0, 10 ** 999)), "Poly(0, 1" + "0" * 999 + ")")

    def test_equality(self):
        self.assertTrue(Poly(1, 2) == Poly(1, 2, 0))
        self.assertTrue(Poly() == Poly(0))
        self.assertFalse(Poly(1, 2) == Poly(1, 2, 3))
        self.assertFalse(Poly(1, 2) == Poly(2, 1))
        self.assertFalse(Poly(1, 2) != Poly(1, 2, 0))
        self.assertTrue(Poly(1, 2) != Poly(1, 3))

    def test_equality_with_other_things(self):
        for poly, other in ((Poly(3), 3), (Poly(), 0), (Poly(1), True), (Poly(), None), (Poly(), ()),
                            (Poly(1, 2), (1, 2)), (Poly(1, 2), [1, 2]), (Poly(), "Poly()"), (Poly(3), (3, 1))):
            self.assertIs(poly == other, False)
            self.assertIs(other == poly, False)
            self.assertIs(poly != other, True)


class ValueTest(unittest.TestCase):
    def test_by_hand(self):
        poly = Poly(1, -2, 1)
        self.assertEqual(poly((1, 3)), (4, 9))
        self.assertEqual(poly((-1, 3)), (16, 9))
        self.assertEqual(poly((0, 1)), (1, 1))
        self.assertEqual(poly((1, 1)), (0, 1))

    def test_values_are_in_lowest_terms(self):
        self.assertEqual(Poly(0, 0, 4)((1, 2)), (1, 1))
        self.assertEqual(Poly(0, 2)((-1, 4)), (-1, 2))

    def test_constants_and_zero(self):
        for at in ((0, 1), (1, 1), (-5, 7), (10 ** 50, 3)):
            self.assertEqual(Poly()(at), (0, 1))
            self.assertEqual(Poly(-4)(at), (-4, 1))

    def test_many_polynomials(self):
        chance = random.Random(6)
        for size in (1, 2, 3, 5, 9, 17, 41):
            coefs = [chance.randrange(-10 ** 20, 10 ** 20) for _ in range(size)]
            for at in (Fraction(0), Fraction(1), Fraction(-1), Fraction(2, 3), Fraction(-7, 5),
                       Fraction(10 ** 40 + 1, 7), Fraction(-3, 10 ** 45), Fraction(10 ** 60, 10 ** 60 + 1)):
                expected = value_of(coefs, at)
                value = Poly.of(coefs)((at.numerator, at.denominator))
                self.assertEqual(value, (expected.numerator, expected.denominator))
                self.assertIs(type(value), tuple)

    def test_many_digits_and_both_signs(self):
        chance = random.Random(7)
        for size in (0, 1, 2, 3, 21, 41):
            coefs = [chance.randrange(-10 ** 999, 10 ** 999) for _ in range(size)]
            poly = Poly.of(coefs)
            for den in (1, 2, 10 ** 99 + 3, 10 ** 999 - 1):
                for num in (0, 1, -1, den, -den, 7 * 10 ** 98 + 1, -10 ** 999 + 5):
                    at = Fraction(num, den)
                    expected = value_of(coefs, at)
                    value = poly((at.numerator, at.denominator))
                    self.assertEqual(value, (expected.numerator, expected.denominator))
            self.assertEqual(poly((0, 1)), (poly[0], 1))
            self.assertEqual(poly((1, 1)), (sum(coefs), 1))

    def test_a_high_degree(self):
        self.assertEqual(Poly.path(400, 0)((-2, 3)), (2 ** 400, 3 ** 400))
        self.assertEqual(Poly.path(0, 401)((5, 3)), (-2 ** 401, 3 ** 401))

    def test_values_that_are_too_long_to_be_written(self):
        at = (10 ** 900 + 1, 10 ** 900)
        expected = value_of([1] * 41, Fraction(*at))
        self.assertEqual(Poly.of([1] * 41)(at), (expected.numerator, expected.denominator))


class DerivativeTest(unittest.TestCase):
    def test_by_hand(self):
        self.assertEqual(Poly(7, 5, -3, 2).derivative().coefs, (5, -6, 6))
        self.assertEqual(Poly(7).derivative().coefs, ())
        self.assertEqual(Poly(0, 1).derivative().coefs, (1,))

    def test_of_a_product(self):
        p, q = Poly(3, -1, 4, 1, -5), Poly(9, 2, -6, 5)
        self.assertEqual((p * q).derivative(), p.derivative() * q + p * q.derivative())

    def test_the_polynomial_stays(self):
        poly = Poly(7, 5, -3)
        poly.derivative()
        self.assertEqual(poly.coefs, (7, 5, -3))


class PathTest(unittest.TestCase):
    def test_short_paths(self):
        self.assertEqual(Poly.path(0, 0).coefs, (1,))
        self.assertEqual(Poly.path(3, 0).coefs, (0, 0, 0, 1))
        self.assertEqual(Poly.path(0, 3).coefs, (1, -3, 3, -1))
        self.assertEqual(Poly.path(1, 1).coefs, (0, 1, -1))
        self.assertEqual(Poly.path(2, 2).coefs, (0, 0, 1, -2, 1))
        self.assertEqual(Poly.path(wins=1, losses=0).coefs, (0, 1))

    def test_long_paths(self):
        for wins, losses in ((30, 30), (0, 200), (200, 0), (150, 170)):
            coefs = [0] * wins + [(-1) ** k * comb(losses, k) for k in range(losses + 1)]
            self.assertEqual(Poly.path(wins, losses).coefs, tuple(coefs))


if __name__ == "__main__":
    unittest.main()
