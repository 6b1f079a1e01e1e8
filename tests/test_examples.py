"""The examples at the end of the document, as far as they speak of modules that there are."""

import unittest

from lookstop.errors import InvalidRatio, NotExact
from lookstop.polys import Poly
from lookstop.ratios import add, ratio


class ExamplesTest(unittest.TestCase):
    def test_ratio(self):
        self.assertEqual(ratio(6, -4), (-3, 2))

    def test_ratio_with_a_zero_denominator(self):
        with self.assertRaises(InvalidRatio) as caught:
            ratio(5, 0)
        self.assertEqual(caught.exception.value, (5, 0))

    def test_add(self):
        self.assertEqual(add((1, 2), (1, 3), (1, 6)), (1, 1))

    def test_reading_a_polynomial(self):
        p = Poly(1, -2, 1, 0)
        self.assertEqual([p.coefs, p.degree, len(p), p[5], p((1, 3))], [(1, -2, 1), 2, 3, 0, (4, 9)])

    def test_repr(self):
        self.assertEqual(repr(3 * Poly(0, 1) - Poly.path(1, 1)), "Poly(0, 2, 1)")

    def test_not_exact(self):
        with self.assertRaises(NotExact):
            Poly(1, 1) // Poly(0, 2)

    def test_orders(self):
        p = Poly.path(1, 1)
        self.assertEqual([p <= 1, p >= Poly(0, 1), Poly(0, 1) >= p], [True, False, True])


if __name__ == "__main__":
    unittest.main()
