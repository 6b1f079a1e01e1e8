"""Points 27 to 31: how often a wrong word is said at most, and how many tries are made in the mean at most."""

import unittest
from fractions import Fraction

from lookstop.bounds import fitting_shares, length_at_most, worst_wrong, wrong_at, wrong_at_most, wrong_pieces
from lookstop.polys import Poly
from lookstop.signs import is_certificate, sign_map
from lookstop.tables import Table
from lookstop.words import read_word
from tests.checks import fraction, is_ratio, is_valid, pair, value_of
from tests.some_tables import counts_of, long_table, silent_table, small_table, some_table, wrong_by_hand

NARROWS = (1, 1000, 1000000)


def rare_table():
    """A table of 3 tries that is wrong on no share but those beside the shares of its words."""
    return Table(3, [3], {(3, 0): "at least 1/2", (2, 1): "no word", (1, 2): "no word", (0, 3): "below 1/2"})


TABLES = [small_table(), rare_table(), silent_table(1), silent_table(30)] + [some_table(seed, 1 + seed % 8)
                                                                            for seed in range(20)]


class WrongTest(unittest.TestCase):
    def test_by_hand(self):
        table = small_table()
        self.assertEqual([wrong_at(table, (1, 3)), wrong_at(table, (1, 2)), wrong_at(table, (1, 1))],
                         [(1, 9), (1, 2), (0, 1)])
        self.assertEqual(wrong_at(table, (0, 1)), (0, 1))

    def test_at_and_beside_the_shares_of_the_words(self):
        for table in TABLES + [long_table()]:
            named = [fraction(share) for _, share in map(read_word, table.words) if share is not None]
            shares = {Fraction(0), Fraction(1), Fraction(3, 7)}
            for share in named[:20]:
                shares |= {share, share - Fraction(1, 10 ** 50), share + Fraction(1, 10 ** 50)}
            for share in sorted(shares):
                found = wrong_at(table, pair(share))
                self.assertTrue(is_ratio(found))
                self.assertEqual(found, pair(wrong_by_hand(table, share)))

    def test_a_share_of_many_digits(self):
        share = Poly.path(20, 20)((10 ** 300, 3 * 10 ** 300 + 1))
        self.assertEqual(wrong_at(small_table(), share), Poly(0, 0, 1)(share))


class PiecesTest(unittest.TestCase):
    def test_by_hand(self):
        self.assertEqual(wrong_pieces(small_table()), [((0, 1), (1, 2), Poly(0, 0, 1)), ((1, 2), (1, 1), Poly(1, -1))])
        self.assertEqual(wrong_pieces(silent_table(4)), [((0, 1), (1, 1), Poly())])

    def test_words_of_one_share_make_one_cut(self):
        rule = {(2, 0): "at least 2/3", (1, 1): "below 2/3", (0, 2): "below 1/3"}
        pieces = wrong_pieces(Table(2, [2], rule))
        self.assertEqual([(low, high) for low, high, _ in pieces],
                         [((0, 1), (1, 3)), ((1, 3), (2, 3)), ((2, 3), (1, 1))])
        self.assertEqual([poly for _, _, poly in pieces],
                         [Poly.path(2, 0), Poly.path(2, 0) + Poly.path(0, 2), 2 * Poly.path(1, 1) + Poly.path(0, 2)])

    def test_words_that_are_not_reached_make_no_cut(self):
        rule = {**small_table().rule(), (0, 2): "at least 1/7", (1, 0): "below 3/7"}
        self.assertEqual(len(wrong_pieces(Table(2, [2], rule))), 3)
        rule = {**small_table().rule(), (0, 2): "at least 1/7"}
        self.assertEqual([low for low, _, _ in wrong_pieces(Table(2, [1, 2], rule))], [(0, 1), (1, 2)])

    def test_all_pieces(self):
        for table in TABLES + [long_table(), long_table(10 ** 30)]:
            pieces = wrong_pieces(table)
            self.assertIs(type(pieces), list)
            self.assertTrue(all(type(piece) is tuple for piece in pieces))
            named = {share for _, share in map(read_word, table.words) if share is not None}
            cuts = [(0, 1)] + sorted(named, key=fraction) + [(1, 1)]
            self.assertEqual([(low, high) for low, high, _ in pieces], list(zip(cuts, cuts[1:])))
            for low, high, poly in pieces[:6] + pieces[-6:]:
                left, right = fraction(low), fraction(high)
                for share in (left, (left + right) / 2, right - (right - left) / 10 ** 20):
                    self.assertEqual(value_of(poly.coefs, share), wrong_by_hand(table, share))
            self.assertEqual(pieces[-1][2]((1, 1)), wrong_at(table, (1, 1)))

    def test_pieces_that_are_changed_change_nothing(self):
        table = small_table()
        pieces = wrong_pieces(table)
        pieces.clear()
        self.assertEqual(len(wrong_pieces(table)), 2)


class BoundsCase(unittest.TestCase):
    def assert_certificates(self, table, bound):
        answer = wrong_at_most(table, bound)
        self.assertIs(type(answer), tuple)
        self.assertEqual(answer[0], "holds")
        self.assertIs(type(answer[1]), list)
        pieces = wrong_pieces(table)
        self.assertEqual(len(answer[1]), len(pieces))
        for (low, high, poly), certificate in zip(pieces, answer[1]):
            gap = bound[0] - bound[1] * poly
            self.assertTrue(is_certificate(gap, low, high, certificate))
            if bound[1] < 10 ** 40:
                self.assertTrue(is_valid(gap.coefs, low, high, certificate))

    def assert_exceeded(self, table, bound):
        answer = wrong_at_most(table, bound)
        self.assertIs(type(answer), tuple)
        self.assertEqual(answer[0], "fails")
        self.assertTrue(is_ratio(answer[1]))
        share = fraction(answer[1])
        self.assertTrue(0 <= share <= 1)
        self.assertGreater(wrong_by_hand(table, share), fraction(bound))


class WrongAtMostTest(BoundsCase):
    def test_a_bound_that_is_just_reached(self):
        # The greatest chance is that of 1/2, at the lower end of the second piece.
        self.assert_certificates(small_table(), (1, 2))
        self.assert_exceeded(small_table(), (10 ** 999 - 1, 2 * 10 ** 999))
        # Here it is the limit 1/8 from below in the first piece, and reached in the second one.
        self.assert_certificates(rare_table(), (1, 8))
        self.assert_exceeded(rare_table(), (10 ** 200 - 1, 8 * 10 ** 200))

    def test_a_bound_that_is_only_approached(self):
        # `at least 1/2` is wrong below 1/2: its chance comes close to 1/4, and at 1/2 it is right.
        table = Table(2, [2], {(2, 0): "at least 1/2", (1, 1): "no word", (0, 2): "no word"})
        self.assertEqual(wrong_at(table, (1, 2)), (0, 1))
        self.assert_certificates(table, (1, 4))
        self.assert_exceeded(table, (10 ** 100 - 1, 4 * 10 ** 100))

    def test_a_peak_inside_a_piece(self):
        rule = {(2, 0): "no word", (1, 1): "below 1/10", (0, 2): "no word"}
        table = Table(2, [2], rule)
        self.assert_certificates(table, (1, 2))
        for digits in (2, 20, 200):
            self.assert_exceeded(table, (10 ** digits - 1, 2 * 10 ** digits))
            self.assert_certificates(table, (10 ** digits + 1, 2 * 10 ** digits))

    def test_bounds_below_0_and_above_1(self):
        for table in TABLES:
            self.assert_exceeded(table, (-1, 3))
            self.assert_exceeded(table, (-10 ** 500, 1))
            self.assert_certificates(table, (1, 1))
            self.assert_certificates(table, (4, 3))
            self.assert_certificates(table, (10 ** 500, 1))

    def test_the_bound_zero(self):
        self.assert_certificates(silent_table(5), (0, 1))
        self.assert_exceeded(small_table(), (0, 1))
        self.assert_exceeded(rare_table(), (0, 1))

    def test_close_to_the_worst(self):
        for table in TABLES + [long_table()]:
            _, value, cap = worst_wrong(table, 1000000)
            self.assert_certificates(table, cap)
            less = fraction(value) - Fraction(1, 10 ** 12)
            self.assert_exceeded(table, pair(less))

    def test_the_pieces_and_the_table_stay(self):
        table = small_table()
        wrong_at_most(table, (1, 2))[1].clear()
        self.assert_certificates(table, (1, 2))
        self.assertEqual(table, small_table())

    def test_the_longest_tables(self):
        for most in (100, 10 ** 30):
            table = long_table(most)
            self.assertGreater(len(wrong_pieces(table)), 40)
            self.assert_certificates(table, (1, 1))
            self.assert_exceeded(table, (1, 1000))


class LengthTest(unittest.TestCase):
    def assert_length(self, table, bound, holds):
        kind, answer = length_at_most(table, bound)
        gap = bound[0] - bound[1] * table.mean_length()
        if holds:
            self.assertEqual(kind, "holds")
            self.assertTrue(is_valid(gap.coefs, (0, 1), (1, 1), answer))
        else:
            self.assertEqual(kind, "fails")
            self.assertTrue(0 <= fraction(answer) < 1)
            self.assertGreater(fraction(table.mean_length()(answer)), fraction(bound))

    def test_by_hand(self):
        # The mean number of tries is 1 plus the share.
        for bound, holds in (((2, 1), True), ((3, 1), True), ((10 ** 99 - 1, 10 ** 99), False), ((3, 2), False),
                             ((2 * 10 ** 99 - 1, 10 ** 99), False), ((1, 1), False), ((0, 1), False),
                             ((-5, 2), False)):
            self.assert_length(small_table(), bound, holds)

    def test_one_number_of_tries(self):
        for limit in (1, 30):
            self.assert_length(silent_table(limit), (limit, 1), True)
            self.assert_length(silent_table(limit), (limit * 1000 - 1, 1000), False)

    def test_a_peak_that_is_just_reached(self):
        rule = {(1, 0): "no word", (0, 2): "no word", (1, 1): "no word", (2, 0): "no word"}
        table = Table(2, [1, 2], rule)
        self.assert_length(table, (2, 1), True)
        rule = {(2, 0): "no word", (0, 2): "no word", **{count: "no word" for count in counts_of(3)}}
        table = Table(3, [2, 3], rule)
        # It is 2 + 2p(1 - p), at most 5/2.
        self.assert_length(table, (5, 2), True)
        for digits in (2, 20, 200):
            self.assert_length(table, (5 * 10 ** digits - 1, 2 * 10 ** digits), False)
            self.assert_length(table, (5 * 10 ** digits + 1, 2 * 10 ** digits), True)

    def test_long_tables(self):
        self.assert_length(long_table(), (30, 1), True)
        self.assert_length(long_table(), (2, 1), False)


class WorstTest(unittest.TestCase):
    def assert_worst(self, table, narrow, most=None):
        answer = worst_wrong(table, narrow)
        self.assertIs(type(answer), tuple)
        self.assertTrue(all(is_ratio(part) for part in answer))
        share, value, cap = [fraction(part) for part in answer]
        self.assertTrue(0 <= share <= 1)
        self.assertEqual(wrong_by_hand(table, share), value)
        self.assertTrue(0 <= cap - value <= Fraction(1, narrow))
        self.assertEqual(wrong_at_most(table, answer[2])[0], "holds")
        if most is not None:
            self.assertTrue(value <= most <= cap)

    def test_by_hand(self):
        for narrow in NARROWS:
            self.assert_worst(small_table(), narrow, Fraction(1, 2))
            self.assert_worst(rare_table(), narrow, Fraction(1, 8))
            self.assert_worst(silent_table(7), narrow, 0)

    def test_where_the_greatest_chance_is_only_approached(self):
        table = Table(2, [2], {(2, 0): "at least 1/2", (1, 1): "no word", (0, 2): "no word"})
        for narrow in NARROWS:
            self.assert_worst(table, narrow, Fraction(1, 4))

    def test_at_the_ends(self):
        below = Table(1, [1], {(1, 0): "below 1/2", (0, 1): "below 1/2"})
        above = Table(1, [1], {(1, 0): "below 1/2", (0, 1): "at least 1/2"})
        for narrow in NARROWS:
            self.assert_worst(below, narrow, 1)
            self.assert_worst(above, narrow, 1)

    def test_all_tables(self):
        for table in TABLES + [long_table(), long_table(10 ** 30)]:
            for narrow in NARROWS:
                self.assert_worst(table, narrow)


class FittingTest(unittest.TestCase):
    def test_by_hand(self):
        # The chance of `at least 1/2` is the square of the share: at least 1/4 from 1/2 onwards.
        for narrow in NARROWS:
            found = fitting_shares(small_table(), "at least 1/2", (1, 4), narrow)
            for left, right, sign in found:
                if sign == 1:
                    self.assertGreaterEqual(fraction(left), Fraction(1, 2))
                elif sign == -1:
                    self.assertLessEqual(fraction(right), Fraction(1, 2))
                else:
                    self.assertTrue(fraction(left) < Fraction(1, 2) < fraction(right))
                    self.assertLessEqual((fraction(right) - fraction(left)) * narrow, 1)

    def test_it_is_the_sign_map(self):
        for table in TABLES:
            for word in (*table.words, "below 99/100", "no word", "?"):
                for bound in ((1, 3), (0, 1), (1, 1), (-1, 2), (5, 2)):
                    expected = sign_map(bound[1] * table.chance(word) - bound[0], (0, 1), (1, 1), 1000)
                    self.assertEqual(fitting_shares(table, word, bound, 1000), expected)

    def test_texts_that_are_never_said(self):
        for text in ("below 1/3", "", "?"):
            signs = [{piece[2] for piece in fitting_shares(small_table(), text, bound, 1)}
                     for bound in ((1, 10), (0, 1), (-1, 10))]
            self.assertEqual(signs, [{-1}, {1}, {1}])

    def test_a_bound_that_is_just_reached(self):
        # The chance of `no word` is p(1 - p), at most 1/4.
        self.assertEqual({piece[2] for piece in fitting_shares(small_table(), "no word", (1, 4), 10)}, {-1})
        signs = [piece[2] for piece in fitting_shares(small_table(), "no word", (10 ** 99 - 1, 4 * 10 ** 99), 10)]
        self.assertEqual((signs[0], signs[-1]), (-1, -1))
        self.assertTrue(0 in signs or 1 in signs)


if __name__ == "__main__":
    unittest.main()
