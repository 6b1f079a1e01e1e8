"""Ratios: point 3 and the module lookstop.ratios of the interface."""

import random
import unittest
from fractions import Fraction

from lookstop.errors import InvalidRatio, StopError
from lookstop.ratios import add, compare, divide, is_share, midpoint, multiply, ratio, subtract


def pair(fraction):
    return (fraction.numerator, fraction.denominator)


def some_fractions(seed, digits, many):
    chance = random.Random(seed)
    top = 10 ** digits
    return [Fraction(chance.randrange(-top, top + 1), chance.randrange(1, top + 1)) for _ in range(many)]


class RatioTest(unittest.TestCase):
    def test_lowest_terms(self):
        self.assertEqual(ratio(6, 4), (3, 2))
        self.assertEqual(ratio(6, 3), (2, 1))
        self.assertEqual(ratio(7, 3), (7, 3))

    def test_signs(self):
        self.assertEqual(ratio(6, -4), (-3, 2))
        self.assertEqual(ratio(-6, 4), (-3, 2))
        self.assertEqual(ratio(-6, -4), (3, 2))
        self.assertEqual(ratio(1, -1), (-1, 1))

    def test_zero(self):
        for den in (1, 7, -1, -7, 10 ** 50):
            self.assertEqual(ratio(0, den), (0, 1))
        self.assertEqual(ratio(0), (0, 1))

    def test_the_numerator_alone(self):
        self.assertEqual(ratio(5), (5, 1))
        self.assertEqual(ratio(-5), (-5, 1))

    def test_keywords(self):
        self.assertEqual(ratio(num=6, den=-4), (-3, 2))
        self.assertEqual(ratio(den=-4, num=6), (-3, 2))
        self.assertEqual(ratio(6, den=4), (3, 2))
        self.assertEqual(ratio(num=6), (6, 1))

    def test_a_zero_denominator(self):
        for num in (5, 0, -5, 10 ** 60):
            with self.assertRaises(InvalidRatio) as caught:
                ratio(num, 0)
            self.assertEqual(caught.exception.value, (num, 0))
            self.assertIsInstance(caught.exception.value, tuple)
        with self.assertRaises(InvalidRatio) as caught:
            ratio(den=0, num=3)
        self.assertEqual(caught.exception.value, (3, 0))
        self.assertIsInstance(caught.exception, StopError)
        self.assertIsInstance(caught.exception, ValueError)

    def test_great_numbers(self):
        num, den = 3 ** 100, 7 ** 90
        self.assertEqual(ratio(num * 10 ** 45, -den * 10 ** 45), (-num, den))
        self.assertEqual(ratio(10 ** 999, 10 ** 998), (10, 1))

    def test_numbers_that_are_too_long_to_be_written(self):
        great = 10 ** 9000
        self.assertEqual(ratio(great * 3, great * 6), (1, 2))
        with self.assertRaises(InvalidRatio) as caught:
            ratio(great, 0)
        self.assertEqual(caught.exception.value, (great, 0))

    def test_kinds(self):
        value = ratio(6, -4)
        self.assertIs(type(value), tuple)
        self.assertEqual([type(part) for part in value], [int, int])


class SumAndProductTest(unittest.TestCase):
    def test_without_arguments(self):
        self.assertEqual(add(), (0, 1))
        self.assertEqual(multiply(), (1, 1))

    def test_with_one(self):
        for one in ((0, 1), (1, 1), (-7, 3), (5, 1)):
            self.assertEqual(add(one), one)
            self.assertEqual(multiply(one), one)

    def test_with_three(self):
        self.assertEqual(add((1, 2), (1, 3), (1, 6)), (1, 1))
        self.assertEqual(multiply((1, 2), (2, 3), (-3, 5)), (-1, 5))

    def test_with_eleven(self):
        parts = some_fractions(1, 3, 11)
        self.assertEqual(add(*map(pair, parts)), pair(sum(parts)))
        parts = [part for part in some_fractions(2, 3, 40) if part][:11]
        product = Fraction(1)
        for part in parts:
            product *= part
        self.assertEqual(multiply(*map(pair, parts)), pair(product))

    def test_a_sum_that_is_zero(self):
        self.assertEqual(add((1, 2), (1, 3), (-5, 6)), (0, 1))
        self.assertEqual(add((-7, 9), (7, 9)), (0, 1))

    def test_a_product_that_is_zero(self):
        self.assertEqual(multiply((-7, 9), (0, 1), (3, 2)), (0, 1))

    def test_thirty_digits(self):
        parts = some_fractions(3, 30, 6)
        self.assertEqual(add(*map(pair, parts)), pair(sum(parts)))
        product = Fraction(1)
        for part in parts:
            product *= part
        self.assertEqual(multiply(*map(pair, parts)), pair(product))

    def test_no_argument_is_modified(self):
        parts = [(1, 2), (1, 3)]
        add(*parts)
        multiply(*parts)
        self.assertEqual(parts, [(1, 2), (1, 3)])


class PairsTest(unittest.TestCase):
    def test_both_signs(self):
        parts = [Fraction(n, d) for n in (-5, -2, -1, 0, 1, 2, 5) for d in (1, 2, 3, 4)]
        parts += some_fractions(4, 30, 6)
        for a in parts:
            for b in parts:
                self.assertEqual(subtract(pair(a), pair(b)), pair(a - b))
                self.assertEqual(midpoint(pair(a), pair(b)), pair((a + b) / 2))
                self.assertEqual(compare(pair(a), pair(b)), (a > b) - (a < b))
                if b:
                    self.assertEqual(divide(pair(a), pair(b)), pair(a / b))

    def test_equal_ratios(self):
        for value in ((0, 1), (3, 7), (-3, 7)):
            self.assertEqual(subtract(value, value), (0, 1))
            self.assertEqual(midpoint(value, value), value)
            self.assertEqual(compare(value, value), 0)

    def test_ratios_that_differ_by_very_little(self):
        low, high = (10 ** 60 - 1, 10 ** 60), (10 ** 60, 10 ** 60 + 1)
        self.assertEqual(compare(low, high), -1)
        self.assertEqual(compare(high, low), 1)
        self.assertEqual(subtract(high, low), (1, 10 ** 60 * (10 ** 60 + 1)))
        middle = midpoint(low, high)
        self.assertEqual((compare(low, middle), compare(middle, high)), (-1, -1))
        self.assertEqual(compare((-low[0], low[1]), (-high[0], high[1])), 1)

    def test_dividing_by_zero(self):
        for a in ((0, 1), (1, 2), (-3, 1)):
            with self.assertRaises(InvalidRatio) as caught:
                divide(a, (0, 1))
            self.assertEqual(caught.exception.value, (0, 1))

    def test_dividing_by_a_negative_ratio(self):
        self.assertEqual(divide((1, 2), (-3, 4)), (-2, 3))
        self.assertEqual(divide((0, 1), (-3, 4)), (0, 1))

    def test_results_of_any_length_may_be_passed_on(self):
        great = (10 ** 4000 + 1, 10 ** 4000)
        square = multiply(great, great)
        self.assertEqual(divide(square, great), great)
        self.assertEqual(subtract(square, square), (0, 1))
        self.assertEqual(compare(square, great), 1)


class IsShareTest(unittest.TestCase):
    def test_shares(self):
        for value in ((0, 1), (1, 1), (1, 2), (2, 3), (10 ** 50, 10 ** 50 + 1)):
            self.assertIs(is_share(value), True, value)

    def test_other_pairs(self):
        wrong = [(0, 2), (1, 0), (2, 1), (2, 4), (0, 0), (2, 2), (-1, 2), (1, -2), (-1, -2), (0, -1), (-1, 1)]
        wrong += [(-1, 0), (-1, -1), (3, 2), (10 ** 50 + 1, 10 ** 50), (2 * 10 ** 40, 4 * 10 ** 40)]
        for value in wrong:
            self.assertIs(is_share(value), False, value)


if __name__ == "__main__":
    unittest.main()
