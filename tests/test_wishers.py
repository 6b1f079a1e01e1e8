"""Points 36 and 37: the greatest chance of a word if looks are missed or done early."""

import inspect
import unittest
from fractions import Fraction
from itertools import product

from lookstop.polys import Poly
from lookstop.tables import Table
from lookstop.wishers import greatest_wished, harm
from tests.checks import fraction, pair
from tests.some_tables import counts_of, long_table, silent_table, small_table, some_table

SHARES = (Fraction(0), Fraction(1), Fraction(1, 2), Fraction(2, 7), Fraction(9, 10))


def best_by_hand(table, word, skips, early, share):
    """The greatest chance over all choices that a wisher has after each order of results."""
    rule = table.rule()

    def best(wins, losses, missed):
        tries = wins + losses
        is_look, has_word = tries in table.looks, (wins, losses) in rule
        is_end = is_look and has_word
        options = []
        if is_end or (early and not is_look and has_word):
            options.append(Fraction(rule[wins, losses] == word))
        if not is_end or (tries < table.limit and missed < skips):
            later = missed + is_end
            options.append(share * best(wins + 1, losses, later) + (1 - share) * best(wins, losses + 1, later))
        return max(options)

    return best(0, 0, 0)


def chance_of_behaviour(table, word, skips, early, share, choices):
    """The chance of the word if `choices` says, for each order of results, whether to do what is allowed there."""
    rule = table.rule()

    def chance(results, missed):
        wins = sum(results)
        count = (wins, len(results) - wins)
        is_look, has_word = len(results) in table.looks, count in rule
        is_end = is_look and has_word
        stops = is_end
        if is_end and len(results) < table.limit and missed < skips and choices[results]:
            stops, missed = False, missed + 1
        elif early and has_word and not is_look and choices[results]:
            stops = True
        if stops:
            return Fraction(rule[count] == word)
        return share * chance((*results, 1), missed) + (1 - share) * chance((*results, 0), missed)

    return chance((), 0)


class WishedCase(unittest.TestCase):
    def assert_best(self, table, word, skips, early):
        found = greatest_wished(table, word, skips=skips, early=early)
        self.assertIsInstance(found, Poly)
        for share in SHARES:
            self.assertEqual(fraction(found(pair(share))), best_by_hand(table, word, skips, early, share))
        self.assertEqual(harm(table, word, skips=skips, early=early), found - table.chance(word))
        return found


class WishedTest(WishedCase):
    def test_by_hand(self):
        table = small_table()
        self.assertEqual(greatest_wished(table, "no word").coefs, (0, 1, -1))
        self.assertEqual(greatest_wished(table, "no word", skips=1).coefs, (0, 2, -2))
        self.assertEqual(harm(table, "no word").coefs, ())
        self.assertEqual(harm(table, "no word", skips=1).coefs, (0, 1, -1))
        self.assertEqual(greatest_wished(table, "at least 1/2", skips=1), table.chance("at least 1/2"))
        self.assertEqual(greatest_wished(table, "below 1/2", skips=1), table.chance("below 1/2"))

    def test_without_skips_and_without_early_looks_it_is_the_chance(self):
        for table in [small_table(), silent_table(5), long_table()] + [some_table(seed, 8) for seed in range(5)]:
            for word in table.words[:5]:
                self.assertEqual(greatest_wished(table, word), table.chance(word))
                self.assertEqual(greatest_wished(table, word, skips=0, early=False), table.chance(word))
                self.assertEqual(harm(table, word), Poly())

    def test_keywords_in_each_order(self):
        table = some_table(3, 6)
        for word in table.words:
            expected = greatest_wished(table, word, skips=2, early=True)
            self.assertEqual(greatest_wished(table, word, early=True, skips=2), expected)
            self.assertEqual(greatest_wished(early=True, word=word, skips=2, table=table), expected)
            self.assertEqual(harm(early=True, skips=2, word=word, table=table), expected - table.chance(word))
        for function in (greatest_wished, harm):
            with self.assertRaises(TypeError):
                function(table, "no word", 1)
            self.assertEqual(inspect.signature(function).parameters["skips"].kind, inspect.Parameter.KEYWORD_ONLY)

    def test_against_all_choices(self):
        for seed in range(40):
            table = some_table(seed, 1 + seed % 6, 5)
            for word in {*table.rule().values()}:
                for skips, early in product((0, 1, 2, 3, 1000), (False, True)):
                    self.assert_best(table, word, skips, early)

    def test_against_each_behaviour_alone(self):
        rule = {(1, 0): "no word", (0, 1): "below 1/2", (1, 1): "below 1/2", (2, 0): "no word", (0, 2): "no word",
                **{count: "no word" if count[0] % 2 else "below 1/2" for count in counts_of(3)}}
        orders = [order for tries in range(4) for order in product((0, 1), repeat=tries)]
        for looks in ([3], [1, 3], [2, 3], [1, 2, 3]):
            table = Table(3, looks, rule)
            asked = [order for order in orders if 0 < len(order) < 3]
            for skips, early in product((0, 1, 2), (False, True)):
                found = fraction(greatest_wished(table, "below 1/2", skips=skips, early=early)((2, 7)))
                chances = []
                for picked in product((False, True), repeat=len(asked)):
                    choices = dict(zip(asked, picked))
                    chances.append(chance_of_behaviour(table, "below 1/2", skips, early, Fraction(2, 7), choices))
                self.assertEqual(max(chances), found)

    def test_more_skips_than_looks(self):
        for seed in range(10):
            table = some_table(seed, 7, 4)
            for word in table.words:
                most = greatest_wished(table, word, skips=6)
                for skips in (7, 30, 10 ** 999):
                    self.assertEqual(greatest_wished(table, word, skips=skips), most)

    def test_a_look_at_the_limit_is_not_missed(self):
        self.assertEqual(greatest_wished(silent_table(3), "below 1/2", skips=5, early=True), Poly())
        table = Table(1, [1], {(1, 0): "no word", (0, 1): "below 1/2"})
        self.assertEqual(greatest_wished(table, "no word", skips=9, early=True), Poly(0, 1))

    def test_only_ends_are_missed(self):
        # Looks at counts for which the rule has no word cost no skip: here the only skip is left for the last end.
        rule = {(2, 0): "below 1/2", **{count: "no word" if count == (3, 1) else "below 1/3" for count in counts_of(4)}}
        table = Table(4, [1, 2, 3, 4], rule)
        self.assertEqual(greatest_wished(table, "no word", skips=0), 2 * Poly.path(3, 1))
        self.assertEqual(greatest_wished(table, "no word", skips=1), 4 * Poly.path(3, 1))

    def test_each_missed_look_counts(self):
        rule = {count: "below 1/2" for tries in range(1, 4) for count in counts_of(tries)}
        table = Table(4, [1, 2, 3, 4], {**rule, **{count: "no word" for count in counts_of(4)}})
        for skips, early in product(range(5), (False, True)):
            expected = Poly(1) if skips >= 3 else Poly()
            self.assertEqual(greatest_wished(table, "no word", skips=skips, early=early), expected)

    def test_early_looks(self):
        rule = {(1, 0): "at least 1/2", (0, 1): "below 1/2", **{count: "no word" for count in counts_of(2)}}
        table = Table(2, [2], rule)
        self.assertEqual(greatest_wished(table, "at least 1/2"), Poly())
        self.assertEqual(greatest_wished(table, "at least 1/2", skips=9), Poly())
        self.assertEqual(greatest_wished(table, "at least 1/2", early=True), Poly(0, 1))
        self.assertEqual(greatest_wished(table, "below 1/2", early=True), Poly(1, -1))
        self.assertEqual(harm(table, "below 1/2", early=True), Poly(1, -1))
        # Nobody has to look early: a word that is said later is not lost.
        self.assertEqual(greatest_wished(table, "no word", early=True), Poly(1))

    def test_early_looks_behind_a_missed_one(self):
        rule = {(1, 0): "no word", (0, 1): "no word", (1, 1): "below 1/2", **{c: "no word" for c in counts_of(3)}}
        table = Table(3, [1, 3], rule)
        self.assertEqual(greatest_wished(table, "below 1/2", early=True), Poly())
        self.assertEqual(greatest_wished(table, "below 1/2", skips=1), Poly())
        self.assertEqual(greatest_wished(table, "below 1/2", skips=1, early=True), 2 * Poly.path(1, 1))

    def test_ends_that_are_not_reached_without_a_wisher(self):
        rule = {(1, 0): "no word", (0, 1): "no word", **{count: "below 1/2" for count in counts_of(2)}}
        table = Table(2, [1, 2], rule)
        self.assertEqual(table.chance("below 1/2"), Poly())
        self.assertEqual(greatest_wished(table, "below 1/2", skips=1), Poly(1))
        self.assertEqual(harm(table, "below 1/2", skips=1), Poly(1))

    def test_texts_that_no_end_says(self):
        for table in (small_table(), silent_table(4), long_table()):
            for text in ("below 1/999", "", "?", "below 2/4", "NO WORD"):
                for skips, early in ((0, False), (3, True)):
                    self.assertEqual(greatest_wished(table, text, skips=skips, early=early), Poly())
                    self.assertEqual(harm(table, text, skips=skips, early=early), Poly())

    def test_more_is_never_less(self):
        table = some_table(5, 9, 4)
        for word in table.words:
            latest = table.chance(word)
            for skips in range(4):
                found = greatest_wished(table, word, skips=skips)
                self.assertTrue(found >= latest)
                self.assertTrue(greatest_wished(table, word, skips=skips, early=True) >= found)
                self.assertTrue(greatest_wished(table, word, skips=skips, early=True) <= 1)
                latest = found

    def test_the_longest_tables(self):
        rule = {count: "no word" if count[0] == 3 * count[1] else "below 1/2"
                for tries in range(1, 31) for count in counts_of(tries)}
        table = Table(30, list(range(1, 31)), rule)
        found = greatest_wished(table, "no word", skips=29)
        self.assertEqual(greatest_wished(table, "no word", skips=10 ** 999, early=True), found)
        self.assertTrue(greatest_wished(table, "no word", skips=28) <= found)
        self.assertEqual(greatest_wished(table, "no word", skips=2), Poly())
        self.assertEqual(greatest_wished(table, "no word", skips=3), 4 * Poly.path(3, 1))

    def test_the_table_stays(self):
        table = small_table()
        greatest_wished(table, "no word", skips=2, early=True)
        harm(table, "no word", skips=2, early=True)
        self.assertEqual(table, small_table())


if __name__ == "__main__":
    unittest.main()
