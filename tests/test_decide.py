"""Points 13 and 14: certificates and decisions."""

import random
import unittest
from fractions import Fraction

from lookstop.polys import Poly
from lookstop.signs import decide, is_certificate
from tests.checks import fraction, is_ratio, is_valid, pair, value_of

UNIT = ((0, 1), (1, 1))
X = Poly(0, 1)


def point(num, den):
    """The polynomial with the only root num/den, positive behind it."""
    return Poly(-num, den)


class DecideCase(unittest.TestCase):
    def assert_holds(self, poly, low=(0, 1), high=(1, 1)):
        kind, certificate = decide(poly, low, high)
        self.assertEqual(kind, "holds", poly.degree)
        self.assertIs(type(certificate), tuple)
        self.assertIs(type(certificate[2]), list)
        self.assertIsInstance(certificate[0], Poly)
        self.assertIsInstance(certificate[1], Poly)
        self.assertTrue(all(is_ratio(cut) for cut in certificate[2]))
        self.assertTrue(is_valid(poly.coefs, low, high, certificate))
        self.assertIs(is_certificate(poly, low, high, certificate), True)
        return certificate

    def assert_fails(self, poly, low=(0, 1), high=(1, 1)):
        answer = decide(poly, low, high)
        self.assertIs(type(answer), tuple)
        kind, share = answer
        self.assertEqual(kind, "fails", poly.degree)
        self.assertTrue(is_ratio(share))
        self.assertTrue(fraction(low) <= fraction(share) < fraction(high))
        self.assertLess(value_of(poly.coefs, fraction(share)), 0)
        return share


class DecideTest(DecideCase):
    def test_the_zero_polynomial_and_constants(self):
        for low, high in (UNIT, ((-5, 3), (-1, 3)), ((7, 2), (100, 3))):
            self.assert_holds(Poly(), low, high)
            self.assert_holds(Poly(1), low, high)
            self.assert_holds(Poly(10 ** 999), low, high)
            self.assert_fails(Poly(-1), low, high)

    def test_touching_inside(self):
        for num, den in ((1, 2), (1, 3), (2, 3), (355, 1130), (10 ** 30 + 1, 3 * 10 ** 30), (1, 10 ** 60)):
            self.assert_holds(point(num, den) ** 2)
            self.assert_holds(point(num, den) ** 4 * Poly(3, 1))
            self.assert_fails(-point(num, den) ** 2)
            self.assert_fails(point(num, den) ** 3)
            self.assert_fails(-point(num, den) ** 3)

    def test_touching_where_no_ratio_is(self):
        square = Poly(-1, 0, 2) ** 2
        self.assert_holds(square)
        self.assert_holds(square * Poly(-1, 0, 3) ** 4 * Poly.path(3, 2))
        self.assert_fails(square * Poly(-1, 0, 3) ** 3)
        self.assert_fails(-square)

    def test_touching_at_the_ends(self):
        low, high = ((1, 3), (3, 4))
        self.assert_holds(point(1, 3), low, high)
        self.assert_holds(-point(3, 4), low, high)
        self.assert_holds(-point(1, 3) * point(3, 4), low, high)
        self.assert_holds(point(1, 3) ** 2 * point(3, 4) ** 2, low, high)
        self.assert_holds(point(1, 3) ** 3 * point(3, 4) ** 4 * point(1, 2) ** 2, low, high)
        self.assert_fails(-point(1, 3), low, high)
        self.assert_fails(point(3, 4), low, high)
        self.assert_fails(point(1, 3) * point(3, 4), low, high)

    def test_negative_at_the_lower_end_alone_is_negative_beside_it(self):
        for digits in (1, 20, 300):
            great = 10 ** digits
            self.assert_fails(Poly(-1, great))
            self.assert_fails(X * Poly(-1, great))
            self.assert_fails(X ** 2 * Poly(-1, great))
            self.assert_holds(X ** 2 * Poly(1, great))

    def test_negative_only_close_to_the_upper_end(self):
        for digits in (1, 20, 300):
            great = 10 ** digits
            self.assert_fails(Poly(great, -great - 1))
            self.assert_fails(Poly(1, -1) * Poly(great, -great - 1))
            self.assert_fails(Poly(1, -1) ** 2 * Poly(great, -great - 1))
            self.assert_holds(Poly(1, -1) ** 2 * Poly(great + 1, -great))
            self.assert_fails(Poly(great, -great - 1) * point(1, 3) ** 2, (1, 3), (1, 1))

    def test_negative_on_a_very_short_part_only(self):
        for digits in (3, 10, 50, 300):
            square = point(3 * 10 ** (digits - 1) + 7, 10 ** digits) ** 2
            for factor in (Poly(1), Poly(1, 1), Poly(2, -1) ** 3, Poly(1, 0, 1) ** 5):
                self.assert_fails((square - 1) * factor)
                self.assert_holds(square * factor)
                self.assert_holds((square + 1) * factor)

    def test_a_short_part_between_two_irrational_roots(self):
        for great in (10, 100, 10 ** 6):
            self.assert_fails(Poly(1, 1) ** 3 * (great * Poly(-1, 0, 2) ** 2 - 1))
            self.assert_holds(Poly(1, 1) ** 3 * (great * Poly(-1, 0, 2) ** 2 + 1))
        near = X ** 40 - 2 * Poly(-1, 100) ** 2
        self.assert_fails(near)
        self.assert_fails(-near)
        self.assert_holds(X ** 40 + 2 * Poly(-1, 100) ** 2)

    def test_a_part_that_is_too_short_to_be_found_by_halving_alone(self):
        # The two roots agree in about 1000 digits.
        self.assert_fails(2 * Poly(-1, 10 ** 100) ** 2 - X ** 20)
        self.assert_holds(2 * Poly(-1, 10 ** 100) ** 2 + X ** 20)

    def test_where_the_stretch_begins_and_ends(self):
        poly = point(1, 2) * point(2, 3)
        self.assert_holds(poly, (0, 1), (1, 2))
        self.assert_holds(poly, (2, 3), (1, 1))
        self.assert_holds(poly, (-7, 3), (1, 2))
        self.assert_holds(poly, (2, 3), (50, 3))
        self.assert_fails(poly, (1, 2), (2, 3))
        self.assert_fails(poly, (0, 1), (501, 1000))
        self.assert_fails(poly, (133, 200), (1, 1))
        self.assert_holds(-poly, (1, 2), (2, 3))
        self.assert_fails(-poly, (-1, 1), (0, 1))

    def test_products_of_known_factors(self):
        chance = random.Random(30)
        for _ in range(150):
            low, high = sorted(Fraction(chance.randrange(-20, 40), chance.randrange(1, 20)) for _ in range(2))
            if low == high:
                continue
            poly = Poly(1)
            crossings = {}
            for _ in range(chance.randrange(6)):
                root = chance.choice([low, high, Fraction(chance.randrange(-40, 80), chance.randrange(1, 25))])
                many = chance.randrange(1, 4)
                poly = poly * point(root.numerator, root.denominator) ** many
                crossings[root] = crossings.get(root, 0) + many
            beyond = sum(many for root, many in crossings.items() if root >= high)
            holds = not any(many % 2 and low < root < high for root, many in crossings.items())
            poly = poly * (-1) ** beyond * Poly(1, -1, 1) ** chance.randrange(3)
            if holds:
                self.assert_holds(poly, pair(low), pair(high))
            else:
                self.assert_fails(poly, pair(low), pair(high))
            self.assert_fails(-poly, pair(low), pair(high))

    def test_great_degrees_and_great_numbers(self):
        chance = random.Random(31)
        top = 10 ** 999
        for _ in range(3):
            poly = Poly.of([chance.randrange(-top, top) for _ in range(41)])
            kind, answer = decide(poly, *UNIT)
            if kind == "fails":
                self.assert_fails(poly)
            else:
                self.assert_holds(poly)
        half = Poly.of([chance.randrange(-10 ** 450, 10 ** 450) for _ in range(21)])
        self.assert_holds(half * half)
        self.assert_fails(-half * half)
        self.assert_holds(half * half * Poly(1, 1), (-1, 10 ** 900 + 1), (10 ** 900 - 1, 10 ** 900 + 3))
        self.assert_holds(Poly.of([top] * 41), (0, 1), (10 ** 500 + 1, 10 ** 500))

    def test_ratios_and_polynomials_of_any_length(self):
        high = Poly.of([10 ** 999 - k for k in range(21)])((1, 10 ** 500 + 3))
        self.assertGreater(high[1], 10 ** 9000)
        self.assert_holds(Poly(1, 2, 3), (0, 1), high)
        self.assert_fails(Poly(-high[0], high[1]) * Poly(1, 1), (0, 1), high)
        _, (rest, root, _) = decide(Poly.of([10 ** 999 + k for k in range(5)]) ** 7, *UNIT)
        self.assert_holds(rest * root)


class CertificateTest(DecideCase):
    def test_by_hand(self):
        poly = Poly(1, -4, 4)
        self.assertTrue(is_certificate(poly, *UNIT, (Poly(1), Poly(-1, 2), [(0, 1), (1, 1)])))
        self.assertTrue(is_certificate(poly, *UNIT, (Poly(1), Poly(1, -2), [(0, 1), (1, 1)])))
        self.assertTrue(is_certificate(poly, *UNIT, (Poly(1), Poly(-1, 2), [(0, 1), (1, 7), (1, 3), (1, 1)])))

    def test_no_square_needs_to_be_taken_out(self):
        poly = Poly(1, -4, 4)
        self.assertFalse(is_certificate(poly, *UNIT, (poly, Poly(1), [(0, 1), (1, 1)])))
        self.assertTrue(is_certificate(poly, *UNIT, (poly, Poly(1), [(0, 1), (1, 2), (1, 1)])))
        self.assertFalse(is_certificate(poly, *UNIT, (poly, Poly(1), [(0, 1), (1, 3), (1, 1)])))
        self.assertTrue(is_certificate(X ** 2, *UNIT, (X ** 2, Poly(-1), [(0, 1), (1, 1)])))

    def test_cuts_that_are_needed(self):
        poly = Poly(3, -10, 10)
        for cuts, valid in (([(0, 1), (1, 1)], False), ([(0, 1), (1, 2), (1, 1)], True),
                            ([(0, 1), (1, 10), (1, 1)], False), ([(0, 1), (1, 3), (2, 3), (1, 1)], True)):
            self.assertIs(is_certificate(poly, *UNIT, (poly, Poly(1), cuts)), valid, cuts)

    def test_a_negative_polynomial_has_none(self):
        for poly in (Poly(-1), Poly(-1, 2), -Poly(-1, 2) ** 2):
            for cuts in ([(0, 1), (1, 1)], [(0, 1), (1, 2), (1, 1)]):
                self.assertFalse(is_certificate(poly, *UNIT, (poly, Poly(1), cuts)))
        self.assertFalse(is_certificate(-Poly(-1, 2) ** 2, *UNIT, (Poly(-1), Poly(-1, 2), [(0, 1), (1, 1)])))

    def test_the_zero_polynomial(self):
        for rest, root, cuts, valid in ((Poly(), Poly(1), [(0, 1), (1, 1)], True),
                                        (Poly(), Poly(3, 5), [(0, 1), (1, 2), (1, 1)], True),
                                        (Poly(4), Poly(), [(0, 1), (1, 1)], True),
                                        (Poly(-4), Poly(), [(0, 1), (1, 1)], False),
                                        (Poly(1), Poly(1), [(0, 1), (1, 1)], False),
                                        (Poly(), Poly(1), [], False), (Poly(), Poly(1), [(0, 1)], False)):
            self.assertIs(is_certificate(Poly(), *UNIT, (rest, root, cuts)), valid)

    def test_certificates_that_are_spoilt(self):
        low, high = (1, 5), (9, 10)
        for poly in (Poly(3, -10, 10), Poly(-1, 2) ** 2 * Poly(3, -10, 10), Poly(1, 1), Poly(7)):
            rest, root, cuts = self.assert_holds(poly, low, high)
            if len(cuts) == 2:
                cuts = [low, (1, 2), high]
                self.assertTrue(is_certificate(poly, low, high, (rest, root, cuts)))
            spoilt = [[], [low], [high], cuts[1:], cuts[:-1], [(0, 1)] + cuts, cuts + [(1, 1)], [(0, 1)] + cuts[1:],
                      cuts[:-1] + [(1, 1)], cuts[::-1], [low] + cuts, cuts + [high], cuts[:1] + cuts[1:2] + cuts[1:],
                      [low, high, high], [low, (2, 3), (1, 2), high], [low, (1, 1), high], [low, (0, 1), high],
                      [(1, 4)] + cuts[1:], cuts[:-1] + [(4, 5)]]
            for wrong in spoilt:
                self.assertIs(is_certificate(poly, low, high, (rest, root, wrong)), False, wrong)
                self.assertFalse(is_valid(poly.coefs, low, high, (rest, root, wrong)))
            for wrong in ((rest + 1, root, cuts), (rest, root + 1, cuts), (rest * 4, root, cuts), (-rest, root, cuts),
                          (rest, root * 2, cuts), (Poly(), root, cuts), (rest, Poly(), cuts),
                          (rest * root, root, cuts) if root.degree else (rest * X, root, cuts)):
                self.assertIs(is_certificate(poly, low, high, wrong), False)
            self.assertIs(is_certificate(poly, low, high, (rest, root, cuts)), True)

    def test_certificates_for_another_polynomial_or_stretch(self):
        certificate = self.assert_holds(Poly(3, -10, 10))
        self.assertFalse(is_certificate(Poly(3, -10, 11), *UNIT, certificate))
        self.assertFalse(is_certificate(Poly(3, -10, 10), (0, 1), (1, 2), certificate))
        self.assertFalse(is_certificate(Poly(3, -10, 10), (-1, 1), (1, 1), certificate))
        self.assertFalse(is_certificate(Poly(), *UNIT, certificate))

    def test_what_is_passed_and_returned_may_be_changed(self):
        poly = Poly(3, -10, 10)
        rest, root, cuts = decide(poly, *UNIT)[1]
        expected = list(cuts)
        self.assertTrue(is_certificate(poly, *UNIT, (rest, root, cuts)))
        self.assertEqual(cuts, expected)
        cuts.clear()
        self.assertEqual(self.assert_holds(poly)[2], expected)
        self.assertEqual(poly.coefs, (3, -10, 10))

    def test_great_degrees(self):
        poly = Poly.path(20, 20) * 4 ** 20
        certificate = self.assert_holds(1 - poly)
        rest, root, cuts = certificate
        self.assertFalse(is_certificate(1 - poly, *UNIT, (rest, root, cuts[:-1] + [(10 ** 900, 10 ** 900 + 1)])))
        self.assertFalse(is_certificate(2 - poly, *UNIT, certificate))


if __name__ == "__main__":
    unittest.main()
