"""Points 24 and 25: the chances of the words, and mean costs."""

import random
import unittest
from fractions import Fraction
from types import GeneratorType

from lookstop.polys import Poly
from lookstop.tables import Table
from tests.checks import pair
from tests.some_tables import all_trials, counts_of, long_table, small_table, some_table

SHARES = (Fraction(0), Fraction(1), Fraction(1, 2), Fraction(1, 3), Fraction(5, 7))


def chance_of(results, share):
    total = Fraction(1)
    for won in results:
        total *= share if won else 1 - share
    return total


class ChanceTest(unittest.TestCase):
    def test_by_hand(self):
        table = small_table()
        self.assertEqual(table.chance("below 1/2").coefs, (1, -1))
        self.assertEqual(table.chance("no word").coefs, (0, 1, -1))
        self.assertEqual(table.chance("at least 1/2").coefs, (0, 0, 1))

    def test_texts_that_are_never_said(self):
        table = Table(2, [1, 2], {**small_table().rule(), (0, 2): "below 1/3"})
        for text in ("below 1/3", "at least 1/3", "below 2/4", "", "NO WORD", "no word\n", "?" * 9999):
            self.assertEqual(table.chance(text), Poly())
            self.assertEqual(table.chance(word=text), Poly())

    def test_all_orders(self):
        for seed in range(30):
            table = some_table(seed, 1 + seed % 9)
            rule = table.rule()
            ended = all_trials(table.limit, table.looks, rule)
            for word in table.words:
                found = table.chance(word)
                self.assertIsInstance(found, Poly)
                for share in SHARES:
                    expected = sum(chance_of(results, share) for results in ended if rule[ended[results]] == word)
                    self.assertEqual(found(pair(share)), pair(expected))

    def test_the_sum_is_one(self):
        for table in [some_table(seed, limit) for seed, limit in enumerate((1, 2, 5, 13, 22, 30))] + [long_table()]:
            total = Poly()
            for word in table.words:
                total = total + table.chance(word)
            self.assertEqual(total, Poly(1))

    def test_a_generator_of_all(self):
        for table in (small_table(), some_table(4, 9), long_table()):
            self.assertIsInstance(table.chances(), GeneratorType)
            found = list(table.chances())
            self.assertEqual(found, [(word, table.chance(word)) for word in table.words])
            self.assertTrue(all(type(item) is tuple for item in found))

    def test_two_generators_of_one_table(self):
        table = small_table()
        first, second = table.chances(), table.chances()
        self.assertEqual(next(first), next(second))
        self.assertEqual(list(first), list(second))
        self.assertEqual(len(list(table.chances())), 3)


class CostTest(unittest.TestCase):
    def test_by_hand(self):
        table = small_table()
        self.assertEqual(table.mean_length().coefs, (1, 1))
        self.assertEqual(table.mean_cost().coefs, (1, 1))
        self.assertEqual(table.mean_cost(per_try=0, per_look=3).coefs, (3, 3))
        self.assertEqual(table.mean_cost(per_look=3).coefs, (4, 4))
        self.assertEqual(table.mean_cost(per_try=-5).coefs, (-5, -5))
        self.assertEqual(table.mean_cost(per_try=0), Poly())
        self.assertEqual(table.mean_cost(per_try=2, per_look=-2), Poly())
        self.assertEqual(table.mean_cost(per_try=10 ** 999, per_look=-1).coefs, (10 ** 999 - 1, 10 ** 999 - 1))

    def test_looks_at_counts_without_a_word_are_paid(self):
        table = Table(4, [1, 3, 4], {count: "no word" for count in counts_of(4)})
        self.assertEqual(table.mean_cost(per_try=0, per_look=1), Poly(3))
        self.assertEqual(table.mean_length(), Poly(4))

    def test_words_at_numbers_that_are_no_look_cost_nothing(self):
        rule = {count: "no word" for tries in range(1, 5) for count in counts_of(tries)}
        self.assertEqual(Table(4, [4], rule).mean_cost(per_look=10), Poly(14))

    def test_all_orders(self):
        chance = random.Random(60)
        for seed in range(30):
            table = some_table(seed, 1 + seed % 9)
            ended = all_trials(table.limit, table.looks, table.rule())
            for prices in ((1, 0), (0, 1), (3, -7), (-2, 5), (chance.randrange(99), -chance.randrange(99))):
                found = table.mean_cost(per_try=prices[0], per_look=prices[1])
                for share in SHARES:
                    expected = 0
                    for results in ended:
                        past = sum(look <= len(results) for look in table.looks)
                        expected += chance_of(results, share) * (prices[0] * len(results) + prices[1] * past)
                    self.assertEqual(found(pair(share)), pair(expected))
            self.assertEqual(table.mean_length(), table.mean_cost())

    def test_the_longest_tables(self):
        table = long_table()
        length = table.mean_length()
        self.assertTrue(length >= 2)
        self.assertTrue(length <= 30)
        self.assertEqual(table.mean_cost(per_try=3, per_look=-1), 2 * length)


if __name__ == "__main__":
    unittest.main()
