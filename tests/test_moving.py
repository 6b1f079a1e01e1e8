"""Point 38: true shares that move within a stretch."""

import unittest
from fractions import Fraction
from itertools import product

from lookstop.errors import InvalidStretch
from lookstop.moving import greatest_moving, least_moving
from lookstop.polys import Poly
from lookstop.ratios import ratio
from lookstop.tables import Table
from tests.checks import fraction, is_ratio
from tests.some_tables import all_trials, counts_of, long_table, silent_table, small_table, some_table

STRETCHES = (((1, 3), (1, 2)), ((0, 1), (1, 1)), ((0, 1), (2, 5)), ((3, 4), (1, 1)),
             ((10 ** 40, 3 * 10 ** 40 + 1), (1, 2)))


def counts_gone_through(table):
    """The counts that are no end and that some order leads to, found by going through all orders."""
    found = {(0, 0)}
    for results in all_trials(table.limit, table.looks, table.rule()):
        for tries in range(len(results)):
            found.add((sum(results[:tries]), tries - sum(results[:tries])))
    return found


def chance_from(table, word, choices, count=(0, 0)):
    """The chance of the word from a count on if the share of each try is the one that `choices` gives."""
    if table.is_end(*count):
        return Fraction(table.word_at(*count) == word)
    share = fraction(choices[count])
    wins, losses = count
    return (share * chance_from(table, word, choices, (wins + 1, losses))
            + (1 - share) * chance_from(table, word, choices, (wins, losses + 1)))


class MovingCase(unittest.TestCase):
    def assert_answer(self, function, table, word, low, high):
        """Check that no other choice at a single count is better, if later choices stay."""
        answer = function(table, word, low, high)
        self.assertIs(type(answer), tuple)
        value, choices = answer
        self.assertTrue(is_ratio(value))
        self.assertIs(type(choices), dict)
        self.assertEqual(fraction(value), chance_from(table, word, choices))
        for count in choices:
            chances = {share: chance_from(table, word, {**choices, count: share}, count)
                       for share in (low, high)}
            best = (max if function is greatest_moving else min)(chances.values())
            self.assertEqual(chances[choices[count]], best)
            if chances[low] == chances[high]:
                self.assertEqual(choices[count], low)
        return answer


class MovingTest(MovingCase):
    def test_by_hand(self):
        table = small_table()
        value, choices = greatest_moving(table, "at least 1/2", (1, 3), (1, 2))
        self.assertEqual((value, choices), ((1, 4), {(0, 0): (1, 2), (1, 0): (1, 2)}))
        value, choices = least_moving(table, "at least 1/2", (1, 3), (1, 2))
        self.assertEqual((value, choices), ((1, 9), {(0, 0): (1, 3), (1, 0): (1, 3)}))
        # A win and then a loss: the greatest share first, then the least one.
        value, choices = greatest_moving(table, "no word", (1, 3), (1, 2))
        self.assertEqual((value, choices), ((1, 3), {(0, 0): (1, 2), (1, 0): (1, 3)}))
        value, choices = least_moving(table, "no word", (1, 3), (1, 2))
        self.assertEqual((value, choices), ((1, 6), {(0, 0): (1, 3), (1, 0): (1, 2)}))
        self.assertEqual(greatest_moving(table, "below 1/2", (0, 1), (1, 1))[0], (1, 1))
        self.assertEqual(least_moving(table, "below 1/2", (0, 1), (1, 1))[0], (0, 1))

    def test_against_all_choices_of_ends(self):
        for seed in range(12):
            table = some_table(seed, 1 + seed % 3, 4)
            counts = sorted(counts_gone_through(table))
            for low, high in STRETCHES[:4]:
                for word in table.words:
                    chances = [chance_from(table, word, dict(zip(counts, picked)))
                               for picked in product((low, high), repeat=len(counts))]
                    self.assertEqual(fraction(greatest_moving(table, word, low, high)[0]), max(chances))
                    self.assertEqual(fraction(least_moving(table, word, low, high)[0]), min(chances))

    def test_against_choices_of_shares_between_the_ends(self):
        for seed in range(6):
            table = some_table(seed, 2, 4)
            counts = sorted(counts_gone_through(table))
            shares = ((1, 4), (1, 3), (1, 2), (2, 3))
            for word in table.words:
                chances = [chance_from(table, word, dict(zip(counts, picked)))
                           for picked in product(shares, repeat=len(counts))]
                self.assertEqual(fraction(greatest_moving(table, word, (1, 4), (2, 3))[0]), max(chances))
                self.assertEqual(fraction(least_moving(table, word, (1, 4), (2, 3))[0]), min(chances))

    def test_choices_of_larger_tables(self):
        for seed in range(25):
            table = some_table(seed, 1 + seed % 7, 5)
            low, high = STRETCHES[seed % len(STRETCHES)]
            for word in table.words:
                for function in (greatest_moving, least_moving):
                    self.assert_answer(function, table, word, low, high)

    def test_the_counts_of_the_choices(self):
        for seed in range(30):
            table = some_table(seed, 1 + seed % 9)
            for low, high in STRETCHES[:2]:
                for function in (greatest_moving, least_moving):
                    _, choices = function(table, table.words[0], low, high)
                    self.assertEqual(set(choices), counts_gone_through(table))
                    self.assertLessEqual(set(choices.values()), {low, high})

    def test_counts_behind_ends_have_no_choice(self):
        rule = {(1, 0): "no word", **{count: "no word" for count in counts_of(3)}}
        _, choices = greatest_moving(Table(3, [1, 2, 3], rule), "no word", (0, 1), (1, 1))
        self.assertEqual(set(choices), {(0, 0), (0, 1), (0, 2), (1, 1)})
        _, choices = greatest_moving(Table(3, [2, 3], rule), "no word", (0, 1), (1, 1))
        self.assertEqual(set(choices), {(0, 0), (0, 1), (1, 0), (0, 2), (1, 1), (2, 0)})
        _, choices = least_moving(Table(1, [1], {(0, 1): "no word", (1, 0): "no word"}), "no word", (0, 1), (1, 1))
        self.assertEqual(choices, {(0, 0): (0, 1)})

    def test_equal_choices_give_the_lower_end(self):
        for table in (silent_table(1), silent_table(6), silent_table(30)):
            for function, word, value in ((greatest_moving, "no word", (1, 1)), (least_moving, "no word", (1, 1)),
                                          (greatest_moving, "?", (0, 1)), (least_moving, "", (0, 1))):
                answer, choices = function(table, word, (1, 3), (2, 3))
                self.assertEqual(answer, value)
                self.assertEqual(set(choices.values()), {(1, 3)})
                self.assertEqual(len(choices), table.limit * (table.limit + 1) // 2)

    def test_equal_in_the_end_but_not_in_the_middle(self):
        # From (1, 0) and from (0, 1) the chances are the same, so the first choice does not matter.
        table = Table(2, [2], {(2, 0): "no word", (1, 1): "below 1/2", (0, 2): "no word"})
        value, choices = greatest_moving(table, "below 1/2", (1, 4), (3, 4))
        self.assertEqual((value, choices), ((3, 4), {(0, 0): (1, 4), (0, 1): (3, 4), (1, 0): (1, 4)}))
        value, choices = least_moving(table, "below 1/2", (1, 4), (3, 4))
        self.assertEqual((value, choices), ((1, 4), {(0, 0): (1, 4), (0, 1): (1, 4), (1, 0): (3, 4)}))

    def test_between_the_chances_of_shares_that_stay(self):
        table = long_table()
        for word in table.words[:3]:
            low, high = ((2, 5), (3, 5))
            greatest, least = (function(table, word, low, high)[0] for function in (greatest_moving, least_moving))
            for share in (low, (1, 2), high):
                self.assertTrue(fraction(least) <= fraction(table.chance(word)(share)) <= fraction(greatest))

    def test_words_of_ends_that_are_not_reached(self):
        table = Table(2, [1, 2], {**small_table().rule(), (0, 2): "at least 1/7"})
        self.assertEqual(greatest_moving(table, "at least 1/7", (0, 1), (1, 1))[0], (0, 1))

    def test_shares_of_many_digits(self):
        low, high = ratio(10 ** 999 + 1, 3 * 10 ** 999 + 7), ratio(2 * 10 ** 999 - 1, 3 * 10 ** 999 - 1)
        table = Table(30, [30], {(wins, 30 - wins): "no word" if wins > 28 else "below 1/2" for wins in range(31)})
        value, choices = greatest_moving(table, "no word", low, high)
        self.assertEqual({choices[count] for count in choices if count[0] < 29 and count[1] < 2}, {high})
        self.assertEqual(choices[29, 0], low)
        self.assertEqual(value, table.chance("no word")(high))
        # A ratio that the package has returned, with more digits than are ever written.
        great = Poly.path(5, 0)(low)
        self.assertGreater(great[1], 10 ** 4900)
        self.assertEqual(least_moving(small_table(), "at least 1/2", great, high)[0], Poly.path(2, 0)(great))


class StretchTest(unittest.TestCase):
    def assert_no_stretch(self, low, high, *others):
        for function in (greatest_moving, least_moving):
            with self.assertRaises(InvalidStretch) as caught:
                function(*others, low, high)
            self.assertEqual((caught.exception.low, caught.exception.high), (low, high))

    def test_stretches_turned_about_and_without_width(self):
        for low, high in (((1, 2), (1, 3)), ((1, 1), (0, 1)), ((1, 2), (1, 2)), ((0, 1), (0, 1)), ((1, 1), (1, 1))):
            self.assert_no_stretch(low, high, small_table(), "no word")
            self.assert_no_stretch(low, high, long_table(), "?")

    def test_ahead_of_every_other_check(self):
        self.assert_no_stretch((1, 2), (1, 3), None, None)

    def test_a_very_short_stretch(self):
        low, high = ratio(10 ** 900, 2 * 10 ** 900 + 1), (1, 2)
        value, choices = greatest_moving(small_table(), "no word", low, high)
        self.assertEqual(choices, {(0, 0): high, (1, 0): low})
        self.assertEqual(fraction(value), (1 - fraction(low)) / 2)


class NewDictTest(unittest.TestCase):
    def test_a_dict_that_is_changed_changes_nothing(self):
        table = some_table(2, 5)
        for function in (greatest_moving, least_moving):
            expected = function(table, table.words[0], (1, 5), (4, 5))
            _, choices = function(table, table.words[0], (1, 5), (4, 5))
            choices[0, 0] = "?"
            choices.clear()
            self.assertEqual(function(table, table.words[0], (1, 5), (4, 5)), expected)
        self.assertEqual(table, some_table(2, 5))


if __name__ == "__main__":
    unittest.main()
