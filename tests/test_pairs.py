"""Points 32 to 35: two tables compared at all shares, and several tables that say a word."""

import random
import unittest
from fractions import Fraction
from math import prod

from lookstop.pairs import all_say, any_says, compare_lengths, compare_wrongs, never_worse
from lookstop.polys import Poly
from lookstop.tables import Table
from tests.checks import fraction, is_ratio, pair
from tests.some_tables import (counts_of, length_by_hand, long_table, silent_table, small_table, some_table,
                               wrong_by_hand)

TABLES = [small_table(), silent_table(2), silent_table(3)] + [some_table(seed, 1 + seed % 6) for seed in range(12)]
GRID = [Fraction(step, 60) for step in range(61)] + [Fraction(step, 7 ** 4) for step in range(0, 7 ** 4, 200)]


def table_of(words, looks=None):
    """The table whose counts with the greatest number of tries have these words, from no wins upwards."""
    limit = len(words) - 1
    return Table(limit, looks or [limit], dict(zip(counts_of(limit), words)))


class PairCase(unittest.TestCase):
    def assert_shares(self, answer, difference):
        """Check an answer by the difference, a function of a Fraction, of which the first is that of less."""
        self.assertIs(type(answer), tuple)
        self.assertEqual(len(answer), 2)
        for sign, share in zip((-1, 1), answer):
            if share is None:
                for at in GRID:
                    self.assertGreaterEqual(-sign * difference(at), 0)
            else:
                self.assertTrue(is_ratio(share))
                self.assertTrue(0 <= fraction(share) <= 1)
                self.assertGreater(sign * difference(fraction(share)), 0)

    def assert_lengths(self, first, second, shorter=None, longer=None):
        answer = compare_lengths(first, second)
        self.assert_shares(answer, lambda at: length_by_hand(first, at) - length_by_hand(second, at))
        self.assert_found(answer, shorter, longer)

    def assert_wrongs(self, first, second, less=None, more=None):
        answer = compare_wrongs(first, second)
        self.assert_shares(answer, lambda at: wrong_by_hand(first, at) - wrong_by_hand(second, at))
        self.assert_found(answer, less, more)

    def assert_found(self, answer, *expected):
        """Check which shares there are, where that is known: True or False."""
        for share, there in zip(answer, expected):
            if there is not None:
                self.assertEqual(share is not None, there)


class LengthsTest(PairCase):
    def test_the_same_table_and_an_equal_one(self):
        for table in TABLES + [long_table()]:
            self.assertEqual(compare_lengths(table, table), (None, None))
            self.assertEqual(compare_lengths(table, Table(table.limit, table.looks, table.rule())), (None, None))

    def test_other_tables_of_the_same_length(self):
        # Both words and limits differ, but the trial ends with the first try or with the second one in the same way.
        rule = {(0, 1): "below 1/3", (2, 0): "no word", (1, 1): "no word", (0, 2): "no word"}
        self.assertEqual(compare_lengths(small_table(), Table(2, [1, 2], rule)), (None, None))

    def test_always_longer_and_always_shorter(self):
        self.assert_lengths(silent_table(2), silent_table(3), True, False)
        self.assert_lengths(silent_table(30), silent_table(29), False, True)

    def test_a_difference_that_is_zero_at_an_end(self):
        # The small table has 1 plus the share as its mean: 1 at 0, and 2 at 1.
        self.assert_lengths(small_table(), silent_table(1), False, True)
        self.assert_lengths(small_table(), silent_table(2), True, False)
        self.assert_lengths(silent_table(1), small_table(), True, False)
        self.assert_lengths(silent_table(2), small_table(), False, True)

    def test_a_difference_that_is_zero_in_the_middle(self):
        # 1 plus the share against 2 minus the share: equal at 1/2, and of both signs.
        rule = {(1, 0): "no word", (2, 0): "no word", (1, 1): "no word", (0, 2): "no word"}
        self.assert_lengths(small_table(), Table(2, [1, 2], rule), True, True)

    def test_a_difference_that_touches_zero_in_the_middle(self):
        # The first has 2 + 4p(1 - p) tries, from 2 to 3: 3 at 1/2 only.
        rule = {count: "no word" for count in counts_of(2) + counts_of(4) if count != (1, 1)}
        first = Table(4, [2, 4], {**rule, (2, 2): "no word"})
        self.assertEqual(first.mean_length(), 2 + 4 * Poly.path(1, 1))
        self.assert_lengths(first, silent_table(3), True, False)
        self.assert_lengths(silent_table(3), first, False, True)

    def test_one_look_more(self):
        for seed in range(8):
            table = some_table(seed, 6)
            for tries in range(1, 7):
                more = table.with_look(tries)
                self.assertIsNone(compare_lengths(more, table)[1])
                self.assert_lengths(more, table, None, False)
                self.assert_lengths(table, more, False, None)
        self.assertIsNone(compare_lengths(small_table(), small_table().without_look(1))[1])
        self.assertIsNotNone(compare_lengths(small_table(), small_table().without_look(1))[0])

    def test_tables_exchanged(self):
        for first in TABLES:
            for second in TABLES[::4]:
                there, back = compare_lengths(first, second), compare_lengths(second, first)
                self.assertEqual([share is None for share in there], [share is None for share in reversed(back)])
                self.assert_lengths(first, second)

    def test_a_difference_on_a_short_part(self):
        # 3 plus 9p(1 - p) tries: more than 5 from 1/3 to 2/3 only, and at most 5.25.
        early = {(3, 0): "no word", (0, 3): "no word"}
        first = Table(6, [3, 6], {**early, **{count: "no word" for count in counts_of(6)}})
        self.assertEqual(first.mean_length(), 3 + 9 * Poly.path(1, 1))
        self.assert_lengths(first, silent_table(5), True, True)
        self.assert_lengths(first, silent_table(6), True, False)


class WrongsTest(PairCase):
    def test_the_same_table_and_an_equal_one(self):
        for table in TABLES + [long_table(), long_table(10 ** 30)]:
            self.assertEqual(compare_wrongs(table, table), (None, None))
            self.assertEqual(compare_wrongs(table, Table(table.limit, table.looks, table.rule())), (None, None))

    def test_silent_tables_are_never_wrong(self):
        self.assert_wrongs(silent_table(4), silent_table(7), False, False)
        self.assert_wrongs(small_table(), silent_table(2), False, True)
        self.assert_wrongs(silent_table(2), small_table(), True, False)

    def test_a_difference_on_one_side_of_a_word(self):
        # `at least 1/2` is wrong below 1/2 only, `below 1/2` from there onwards only.
        upper, lower, both = (table_of(words) for words in (("no word", "at least 1/2"), ("below 1/2", "no word"),
                                                            ("below 1/2", "at least 1/2")))
        self.assert_wrongs(upper, both, True, False)
        self.assert_wrongs(lower, both, True, False)
        self.assert_wrongs(both, lower, False, True)
        self.assert_wrongs(upper, lower, True, True)

    def test_shares_that_divide_differently(self):
        first = table_of(("below 2/3", "no word", "at least 1/3"))
        second = table_of(("below 3/4", "no word", "at least 1/4"))
        self.assert_wrongs(first, second, False, True)
        self.assert_wrongs(second, first, True, False)
        third = table_of(("below 3/4", "no word", "at least 1/3"))
        self.assert_wrongs(first, third, False, True)
        self.assert_wrongs(second, third, True, False)

    def test_a_difference_on_a_single_piece(self):
        # The words agree but for one, which is wrong in a short piece where the other one is not.
        for digits in (1, 5, 14, 29):
            near = 10 ** digits // 2
            first = table_of(("below 1/5", "no word", f"at least {near + 1}/{2 * near + 1}"))
            second = table_of(("below 1/5", "no word", "at least 1/2"))
            answer = compare_wrongs(first, second)
            self.assertIsNone(answer[0])
            self.assertTrue(Fraction(1, 2) <= fraction(answer[1]) < Fraction(near + 1, 2 * near + 1))
            self.assert_wrongs(first, second, False, True)
            self.assert_wrongs(second, first, True, False)

    def test_a_difference_of_both_signs_in_two_pieces(self):
        first = table_of(("below 2/5", "at least 1/5"))
        second = table_of(("below 3/5", "at least 2/5"))
        self.assert_wrongs(first, second, True, True)

    def test_a_difference_that_is_zero_at_an_end_or_in_the_middle(self):
        # Wrong at all shares from 1/1000 onwards, the first with p(1 - p) and the second with twice as much.
        first = Table(2, [2], {(2, 0): "no word", (1, 1): "below 1/1000", (0, 2): "no word"})
        self.assert_wrongs(first, silent_table(2), False, True)
        second = Table(2, [1, 2], {(0, 1): "no word", (1, 1): "below 1/1000", (2, 0): "no word", (0, 2): "no word"})
        self.assert_wrongs(second, first, True, False)
        # p against 1 - p: equal at 1/2, where the chance of a wrong word is greatest for neither of them.
        self.assert_wrongs(table_of(("no word", "below 1/1000")), table_of(("below 1/1000", "no word")), True, True)
        # Wrong with 2p(1 - p), and with what that leaves: equal at 1/2 only.
        middle = table_of(("no word", "below 1/1000", "no word"))
        sides = table_of(("below 1/1000", "no word", "below 1/1000"))
        self.assertEqual(sides.chance("below 1/1000") - middle.chance("below 1/1000"), Poly(1, -2) ** 2)
        self.assert_wrongs(middle, sides, True, False)
        self.assert_wrongs(sides, middle, False, True)

    def test_tables_exchanged(self):
        for first in TABLES:
            for second in TABLES[::4]:
                there, back = compare_wrongs(first, second), compare_wrongs(second, first)
                self.assertEqual([share is None for share in there], [share is None for share in reversed(back)])
                self.assert_wrongs(first, second)

    def test_words_that_are_not_reached_make_no_difference(self):
        rule = {**small_table().rule(), (0, 2): "at least 1/7"}
        self.assertEqual(compare_wrongs(small_table(), Table(2, [1, 2], rule)), (None, None))

    def test_the_longest_tables(self):
        first, second = long_table(), long_table(10 ** 30)
        self.assert_wrongs(first, second)
        self.assert_wrongs(first, small_table())
        self.assert_wrongs(small_table(), second)


class NeverWorseTest(unittest.TestCase):
    def test_it_agrees_with_the_comparisons(self):
        found = set()
        for first in TABLES:
            for second in TABLES[:8]:
                expected = compare_lengths(first, second)[1] is None and compare_wrongs(first, second)[1] is None
                self.assertIs(never_worse(first, second), expected)
                found.add(expected)
        self.assertEqual(found, {False, True})

    def test_by_hand(self):
        table = small_table()
        self.assertIs(never_worse(table, table), True)
        self.assertIs(never_worse(silent_table(2), silent_table(3)), True)
        self.assertIs(never_worse(silent_table(3), silent_table(2)), False)
        # Longer but not wronger, then wronger but not longer, then both.
        self.assertIs(never_worse(silent_table(2), table), False)
        self.assertIs(never_worse(table, silent_table(2)), False)
        self.assertIs(never_worse(table, silent_table(1)), False)
        self.assertIs(never_worse(silent_table(1), table), True)


class SayTest(unittest.TestCase):
    def test_without_tables(self):
        for word in ("no word", "", "below 2/4"):
            self.assertEqual(all_say(word), Poly(1))
            self.assertEqual(any_says(word), Poly())
            self.assertIsInstance(all_say(word), Poly)
            self.assertIsInstance(any_says(word), Poly)

    def test_one_table(self):
        for table in TABLES:
            for word in table.words:
                self.assertEqual(all_say(word, table), table.chance(word))
                self.assertEqual(any_says(word, table), table.chance(word))

    def test_two_tables_by_hand(self):
        table = small_table()
        self.assertEqual(all_say("no word", table, table).coefs, (0, 0, 1, -2, 1))
        self.assertEqual(any_says("no word", table, table), 2 * Poly.path(1, 1) - Poly.path(2, 2))
        self.assertEqual(all_say("no word", table, silent_table(3)), table.chance("no word"))
        self.assertEqual(any_says("no word", table, silent_table(3)), Poly(1))

    def test_several_tables_in_any_order(self):
        chance = random.Random(7)
        for many in (2, 3, 7):
            for _ in range(5):
                tables = [chance.choice(TABLES) for _ in range(many)]
                for word in ("no word", *tables[0].words, "at least 2/4"):
                    everyone, anyone = all_say(word, *tables), any_says(word, *tables)
                    for share in (Fraction(0), Fraction(1), Fraction(2, 7), Fraction(1, 2)):
                        chances = [fraction(table.chance(word)(pair(share))) for table in tables]
                        self.assertEqual(fraction(everyone(pair(share))), prod(chances))
                        self.assertEqual(fraction(anyone(pair(share))), 1 - prod(1 - each for each in chances))
                    chance.shuffle(tables)
                    self.assertEqual((all_say(word, *tables), any_says(word, *tables)), (everyone, anyone))

    def test_the_same_table_seven_times(self):
        table = long_table()
        word = table.words[0]
        self.assertEqual(all_say(word, *[table] * 7), table.chance(word) ** 7)
        self.assertEqual(any_says(word, *[table] * 7), 1 - (1 - table.chance(word)) ** 7)

    def test_a_text_that_no_table_says(self):
        for text in ("below 1/97", "?", ""):
            self.assertEqual(all_say(text, small_table(), silent_table(2)), Poly())
            self.assertEqual(any_says(text, small_table(), silent_table(2)), Poly())
        # One of the tables says it, the other one does not.
        self.assertEqual(all_say("below 1/2", small_table(), silent_table(2)), Poly())
        self.assertEqual(any_says("below 1/2", small_table(), silent_table(2)), Poly(1, -1))


if __name__ == "__main__":
    unittest.main()
