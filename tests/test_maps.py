"""Points 15 and 16: sign maps and crossings."""

import random
import unittest
from fractions import Fraction

from lookstop.polys import Poly
from lookstop.signs import crossing_stretches, crossings, sign_map, split_square
from tests.checks import changes_by_hand, fraction, is_ratio, pair, sign_row_by_hand, sturm_count, value_of

UNIT = ((0, 1), (1, 1))
X = Poly(0, 1)
NARROWS = (1, 1000, 1000000)


def point(num, den):
    return Poly(-num, den)


def product_of(*polys):
    total = Poly(1)
    for poly in polys:
        total = total * poly
    return total


class MapCase(unittest.TestCase):
    def assert_map(self, poly, low, high, narrow):
        """Check everything that point 15 says, and return the map."""
        found = sign_map(poly, low, high, narrow)
        rest, _ = split_square(poly)
        self.assertIs(type(found), list)
        self.assertEqual((found[0][0], found[-1][1]), (low, high))
        for first, second in zip(found, found[1:]):
            self.assertEqual(first[1], second[0])
        for piece in found:
            self.assertIs(type(piece), tuple)
            left, right, sign = piece
            self.assertTrue(is_ratio(left) and is_ratio(right))
            self.assertLess(fraction(left), fraction(right))
            row = sign_row_by_hand(rest.coefs, left, right)
            if sign == 1:
                self.assertTrue(all(entry >= 0 for entry in row))
            elif sign == -1:
                self.assertTrue(all(entry <= 0 for entry in row) and any(entry < 0 for entry in row))
            else:
                self.assertEqual(sign, 0)
                self.assertEqual(changes_by_hand(row), 1)
                self.assertTrue(row[0] != 0 and row[-1] != 0)
                self.assertLessEqual((fraction(right) - fraction(left)) * narrow, 1)
        return found

    def assert_crossings(self, poly, low, high, count, points=None):
        """Check point 16, and that there are so many crossings, at these points if they are given."""
        self.assertEqual(crossings(poly, low, high), count)
        rest, _ = split_square(poly)
        for narrow in NARROWS:
            found = crossing_stretches(poly, low, high, narrow)
            self.assertIs(type(found), list)
            self.assertEqual(len(found), count)
            latest = fraction(low)
            for place, stretch in enumerate(found):
                self.assertIs(type(stretch), tuple)
                self.assertTrue(is_ratio(stretch[0]) and is_ratio(stretch[1]))
                left, right = fraction(stretch[0]), fraction(stretch[1])
                self.assertTrue(latest <= left and right <= fraction(high))
                latest = right
                if left == right:
                    self.assertEqual(value_of(rest.coefs, left), 0)
                    self.assertTrue(fraction(low) < left < fraction(high))
                else:
                    self.assertLess(left, right)
                    self.assertLess(value_of(rest.coefs, left) * value_of(rest.coefs, right), 0)
                    self.assertLessEqual((right - left) * narrow, 1)
                    if points is None:
                        self.assertEqual(sturm_count(rest.coefs, left, right), 1)
                if points is not None:
                    inside = [at for at in points if left < at < right or left == at == right]
                    self.assertEqual(inside, [points[place]])


class SignMapTest(MapCase):
    def test_the_zero_polynomial_and_constants(self):
        for low, high in (UNIT, ((-7, 3), (5, 2))):
            for narrow in NARROWS:
                for poly, sign in ((Poly(), 1), (Poly(4), 1), (Poly(-4), -1)):
                    found = self.assert_map(poly, low, high, narrow)
                    self.assertEqual({piece[2] for piece in found}, {sign})

    def test_a_crossing(self):
        for narrow in NARROWS:
            for num, den in ((1, 2), (1, 3), (2, 7), (999, 1000), (1, 10 ** 40)):
                found = self.assert_map(point(num, den), *UNIT, narrow)
                signs = [piece[2] for piece in found]
                self.assertEqual(signs, sorted(signs, key=(-1, 0, 1).index))
                self.assertLessEqual(signs.count(0), 1)
                self.assertEqual([signs[0] < 1, signs[-1] > -1], [True, True])

    def test_wide_crossings_may_be_left_as_they_are(self):
        found = self.assert_map(Poly(-1, 0, 2), *UNIT, 1)
        self.assertEqual(sum(piece[2] == 0 for piece in found), 1)

    def test_touching_is_no_crossing(self):
        for narrow in NARROWS:
            found = self.assert_map(point(1, 3) ** 2 * Poly(-1, 0, 2) ** 4, *UNIT, narrow)
            self.assertEqual({piece[2] for piece in found}, {1})
            found = self.assert_map(-point(1, 2) ** 2, *UNIT, narrow)
            self.assertEqual({piece[2] for piece in found}, {-1})

    def test_roots_at_the_ends(self):
        low, high = (1, 3), (1, 2)
        for many in (1, 2, 3):
            for narrow in NARROWS:
                found = self.assert_map(point(1, 3) ** many, low, high, narrow)
                self.assertEqual({piece[2] for piece in found}, {1})
                found = self.assert_map(point(1, 2) ** many, low, high, narrow)
                self.assertEqual({piece[2] for piece in found}, {(-1) ** many})
                found = self.assert_map(point(1, 3) * point(1, 2) ** many * point(2, 5), low, high, narrow)
                self.assertEqual([piece[2] for piece in found][0], (-1) ** (many + 1))
                self.assertEqual([piece[2] for piece in found][-1], (-1) ** many)

    def test_a_crossing_right_beside_a_root_at_an_end(self):
        for digits in (3, 30, 200):
            great = 10 ** digits
            for narrow in NARROWS:
                found = self.assert_map(X * Poly(-1, great), *UNIT, narrow)
                self.assertEqual({piece[2] for piece in found} - {0}, {-1, 1})
                found = self.assert_map(Poly(1, -1) * Poly(great - 1, -great), *UNIT, narrow)
                self.assertEqual({piece[2] for piece in found} - {0}, {-1, 1})

    def test_many_polynomials(self):
        chance = random.Random(40)
        for _ in range(120):
            poly = product_of(*[Poly.of([chance.randrange(-30, 31) for _ in range(chance.randrange(1, 5))])
                                ** chance.randrange(1, 4) for _ in range(chance.randrange(1, 4))])
            low, high = sorted(Fraction(chance.randrange(-20, 40), chance.randrange(1, 20)) for _ in range(2))
            if low < high:
                self.assert_map(poly, pair(low), pair(high), chance.choice(NARROWS))

    def test_degree_40(self):
        chance = random.Random(41)
        top = 10 ** 999
        poly = Poly.of([chance.randrange(-top, top) for _ in range(41)])
        for narrow in NARROWS:
            self.assert_map(poly, *UNIT, narrow)
        many = product_of(*[point(k, 41) for k in range(1, 41)])
        for narrow in NARROWS:
            found = self.assert_map(many, *UNIT, narrow)
            signs = [piece[2] for piece in found]
            self.assertEqual(signs.count(0) + sum(a * b == -1 for a, b in zip(signs, signs[1:])), 40)

    def test_a_map_that_is_changed_changes_nothing(self):
        poly = Poly(-1, 0, 2)
        found = sign_map(poly, *UNIT, 10)
        expected = list(found)
        found.clear()
        self.assertEqual(sign_map(poly, *UNIT, 10), expected)
        pairs = crossing_stretches(poly, *UNIT, 10)
        expected = list(pairs)
        pairs.append(3)
        self.assertEqual(crossing_stretches(poly, *UNIT, 10), expected)
        self.assertEqual(poly.coefs, (-1, 0, 2))


class CrossingsTest(MapCase):
    def test_by_hand(self):
        self.assert_crossings(Poly(-1, 3) * Poly(-1, 2) ** 2, *UNIT, 1, [Fraction(1, 3)])
        self.assert_crossings(Poly(-1, 3) * Poly(-1, 2) ** 3, *UNIT, 2, [Fraction(1, 3), Fraction(1, 2)])
        self.assert_crossings(Poly(-1, 2), *UNIT, 1, [Fraction(1, 2)])
        self.assert_crossings(Poly(1, -2) ** 5, *UNIT, 1, [Fraction(1, 2)])
        self.assert_crossings(Poly(-1, 0, 2), *UNIT, 1)
        self.assert_crossings(Poly(-1, 0, 2), (-1, 1), (1, 1), 2)

    def test_none(self):
        for poly in (Poly(), Poly(3), Poly(-3), Poly(1, 1), Poly(-1, 2) ** 2, Poly(1, -1, 1), X, Poly(1, -1), X ** 3,
                     Poly.path(3, 5)):
            self.assert_crossings(poly, *UNIT, 0, [])

    def test_the_ends_do_not_count(self):
        for many in (1, 2, 3):
            poly = point(1, 4) ** many * point(3, 4) ** many
            self.assert_crossings(poly, (1, 4), (3, 4), 0, [])
            self.assert_crossings(poly * point(1, 2), (1, 4), (3, 4), 1, [Fraction(1, 2)])
            self.assert_crossings(poly, (1, 5), (3, 4), many % 2, [Fraction(1, 4)] * (many % 2))
            self.assert_crossings(poly, (1, 4), (4, 5), many % 2, [Fraction(3, 4)] * (many % 2))

    def test_known_roots(self):
        chance = random.Random(42)
        for _ in range(80):
            low, high = sorted(Fraction(chance.randrange(-20, 40), chance.randrange(1, 20)) for _ in range(2))
            if low == high:
                continue
            exponents = {}
            for _ in range(chance.randrange(7)):
                # Halves, quarters and so on of the way are where cuts may be.
                root = low + (high - low) * Fraction(chance.randrange(-4, 37), chance.choice((32, 33)))
                exponents[root] = chance.randrange(1, 4)
            poly = product_of(*[point(root.numerator, root.denominator) ** exponents[root] for root in exponents])
            poly = poly * chance.choice((-3, 1)) * Poly(1, -1, 1) ** chance.randrange(3)
            points = sorted(root for root in exponents if exponents[root] % 2 and low < root < high)
            self.assert_crossings(poly, pair(low), pair(high), len(points), points)

    def test_irrational_roots(self):
        chance = random.Random(43)
        for _ in range(60):
            poly = product_of(*[Poly.of([chance.randrange(-30, 31) for _ in range(chance.randrange(2, 5))] + [1])
                                ** chance.randrange(1, 4) for _ in range(chance.randrange(1, 4))])
            low, high = sorted(Fraction(chance.randrange(-20, 40), chance.randrange(1, 20)) for _ in range(2))
            if low < high:
                rest, _ = split_square(poly)
                count = sturm_count(rest.coefs, low, high) if rest.degree > 0 else 0
                self.assert_crossings(poly, pair(low), pair(high), count)

    def test_roots_that_are_very_close(self):
        for digits in (5, 30, 100):
            great = 10 ** digits
            points = [Fraction(great // 3, great), Fraction(great // 3 + 1, great), Fraction(great // 3 + 3, great)]
            poly = product_of(*[point(at.numerator, at.denominator) for at in points])
            self.assert_crossings(poly, *UNIT, 3, points)
            self.assert_crossings(poly ** 2, *UNIT, 0, [])
            self.assert_crossings(poly * X ** 20 * Poly(2, -1) ** 10, *UNIT, 3, points)
            self.assert_crossings((great * Poly(-1, 0, 2) ** 2 - 1) * Poly(1, 1), *UNIT, 2)

    def test_many_roots(self):
        many = product_of(*[point(k, 41) for k in range(1, 41)])
        self.assert_crossings(many, *UNIT, 40, [Fraction(k, 41) for k in range(1, 41)])
        halves = product_of(*[point(k, 32) for k in range(33)])
        self.assert_crossings(halves, *UNIT, 31, [Fraction(k, 32) for k in range(1, 32)])
        wave, before = Poly(-1, 2), Poly(1)
        for _ in range(39):
            wave, before = 2 * Poly(-1, 2) * wave - before, wave
        self.assertEqual(wave.degree, 40)
        self.assertEqual(crossings(wave, *UNIT), 40)
        self.assertEqual(len(crossing_stretches(wave, *UNIT, 1000000)), 40)

    def test_great_numbers(self):
        top = 10 ** 999
        low, high = (-top, top - 1), (top + 1, top)
        self.assert_crossings(Poly(-top, 0, 0, 2 * top + 1), low, high, 1)
        self.assert_crossings(Poly(-1, top), (1, top + 1), (1, top - 1), 1, [Fraction(1, top)])
        self.assert_crossings(Poly(-1, top) ** 3 * Poly(-1, 2), low, high, 2, [Fraction(1, top), Fraction(1, 2)])


if __name__ == "__main__":
    unittest.main()
