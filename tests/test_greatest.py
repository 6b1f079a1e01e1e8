"""Point 17: the greatest value on a stretch."""

import random
import unittest
from fractions import Fraction

from lookstop.peaks import peaks_on
from lookstop.polys import Poly
from lookstop.signs import decide, greatest, is_certificate
from tests.checks import fraction, is_ratio, pair, value_of

UNIT = ((0, 1), (1, 1))
X = Poly(0, 1)
NARROWS = (1, 1000, 1000000)


class GreatestTest(unittest.TestCase):
    def assert_greatest(self, poly, low, high, narrow, most=None):
        """Check everything that point 17 says; `most` is the greatest value, if it is known."""
        answer = greatest(poly, low, high, narrow)
        self.assertIs(type(answer), tuple)
        self.assertTrue(all(is_ratio(part) for part in answer))
        share, value, cap = [fraction(part) for part in answer]
        self.assertTrue(fraction(low) <= share < fraction(high))
        self.assertEqual(value_of(poly.coefs, share), value)
        self.assertTrue(0 <= cap - value <= Fraction(1, narrow))
        if most is not None:
            self.assertTrue(value <= most <= cap)
        else:
            gap = cap.numerator - cap.denominator * poly
            kind, certificate = decide(gap, low, high)
            self.assertEqual(kind, "holds")
            self.assertTrue(is_certificate(gap, low, high, certificate))

    def test_constants(self):
        for low, high in (UNIT, ((-7, 3), (5, 2))):
            for narrow in NARROWS:
                for poly in (Poly(), Poly(4), Poly(-4)):
                    self.assert_greatest(poly, low, high, narrow, poly[0])

    def test_at_the_lower_end(self):
        for narrow in NARROWS:
            self.assert_greatest(Poly(1, -1), *UNIT, narrow, 1)
            self.assert_greatest(-X ** 2, (1, 3), (1, 1), narrow, Fraction(-1, 9))
            self.assert_greatest(-10 ** 50 * X, (-7, 3), (1, 3), narrow, Fraction(7 * 10 ** 50, 3))

    def test_at_the_upper_end_only(self):
        for narrow in NARROWS:
            self.assert_greatest(X, *UNIT, narrow, 1)
            self.assert_greatest(X ** 40, *UNIT, narrow, 1)
            self.assert_greatest(10 ** 300 * X ** 40, (0, 1), (2, 3), narrow, Fraction(10 ** 300 * 2 ** 40, 3 ** 40))
            self.assert_greatest(Poly(-1, 2) ** 2 + X, *UNIT, narrow, 2)
            self.assert_greatest(Poly(0, -10, 10), (0, 1), (3, 2), narrow, Fraction(15, 2))

    def test_at_both_ends(self):
        for narrow in NARROWS:
            self.assert_greatest(Poly(-1, 2) ** 2, *UNIT, narrow, 1)
            self.assert_greatest(-Poly.path(1, 1), *UNIT, narrow, 0)

    def test_at_a_peak(self):
        for narrow in NARROWS:
            self.assert_greatest(Poly.path(1, 1), *UNIT, narrow, Fraction(1, 4))
            self.assert_greatest(4 ** 20 * Poly.path(20, 20), *UNIT, narrow, 1)
            self.assert_greatest(10 ** 30 * Poly.path(2, 1), *UNIT, narrow, Fraction(4 * 10 ** 30, 27))
            self.assert_greatest(Poly.path(2, 1), (0, 1), (2, 3), narrow, Fraction(4, 27))
            self.assert_greatest(Poly.path(2, 1), (2, 3), (1, 1), narrow, Fraction(4, 27))
            self.assert_greatest(-Poly(-1, 3) ** 4, *UNIT, narrow, 0)
            self.assert_greatest(-10 ** 99 * Poly(-1, 0, 2) ** 2 + 7, *UNIT, narrow, 7)

    def test_at_one_of_several_peaks(self):
        for narrow in NARROWS:
            poly = -(100 * Poly(-1, 4) * Poly(-1, 2) * Poly(-3, 4)) ** 2
            self.assert_greatest(poly, *UNIT, narrow, 0)
            self.assert_greatest(poly + X, *UNIT, narrow)
            self.assert_greatest(poly - X, *UNIT, narrow)

    def test_caps_that_are_rounded(self):
        # What the peak leaves open and what rounding adds are together at most what is allowed.
        for coefs, low, high, narrow in (((0, 2, -1), (2, 3), (5, 3), 3), ((2, 2, -2), (1, 3), (4, 3), 2),
                                         ((2, 4, -4), (1, 3), (4, 3), 1)):
            poly = Poly.of(coefs)
            for share, cap in peaks_on(poly.coefs, low, high, narrow):
                gap = fraction(cap) - value_of(poly.coefs, fraction(share))
                self.assertTrue(0 <= gap <= Fraction(1, narrow))
            self.assert_greatest(poly, low, high, narrow)

    def test_a_high_and_very_short_peak(self):
        for narrow in NARROWS:
            place = Poly(-(3 * 10 ** 40 + 7), 10 ** 41)
            self.assert_greatest(-place ** 2 * 10 ** 60 + 5, *UNIT, narrow, 5)
            self.assert_greatest((1 - place ** 2) * Poly(2, -1) ** 3 * Poly(1, 1), *UNIT, narrow)

    def test_many_polynomials(self):
        chance = random.Random(50)
        for _ in range(150):
            digits = chance.choice((1, 2, 5, 30))
            top = 10 ** digits
            poly = Poly.of([chance.randrange(-top, top + 1) for _ in range(chance.randrange(12))])
            low, high = sorted(Fraction(chance.randrange(-20, 40), chance.randrange(1, 20)) for _ in range(2))
            if low < high:
                self.assert_greatest(poly, pair(low), pair(high), chance.choice(NARROWS))

    def test_great_degrees_and_great_numbers(self):
        chance = random.Random(51)
        top = 10 ** 999
        poly = Poly.of([chance.randrange(-top, top) for _ in range(41)])
        for narrow in (1, 1000000):
            self.assert_greatest(poly, *UNIT, narrow)
            self.assert_greatest(-poly, (1, 3), (2, 3), narrow)
        self.assert_greatest(-Poly(-1, top) ** 2, (-1, top - 1), (2, top + 1), 1000000, 0)

    def test_answers_may_be_passed_on(self):
        share, value, cap = greatest(Poly.path(2, 1) * 10 ** 100, *UNIT, 1000000)
        self.assert_greatest(Poly(0, 1, -1), (0, 1), share, 1000)
        self.assert_greatest(Poly(0, 1, -1), pair(-fraction(value)), cap, 1000, Fraction(1, 4))


if __name__ == "__main__":
    unittest.main()
