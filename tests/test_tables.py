"""Points 20 to 23 and 26: what a table is, its ends, and tables with one look more or less."""

import unittest

from lookstop.errors import InvalidTable, InvalidWord, StopError
from lookstop.tables import Table
from tests.some_tables import RULE, all_trials, counts_of, long_table, small_table, some_table

LAST = {(2, 0): "no word", (1, 1): "no word", (0, 2): "no word"}


def full_rule(limit, word="no word"):
    return {count: word for count in counts_of(limit)}


class MakingTest(unittest.TestCase):
    def assert_invalid(self, place, limit, looks, rule):
        with self.assertRaises(InvalidTable) as caught:
            Table(limit, looks, rule)
        self.assertEqual(caught.exception.place, place)
        self.assertIsInstance(caught.exception, StopError)

    def assert_wrong_word(self, word, limit, looks, rule):
        with self.assertRaises(InvalidWord) as caught:
            Table(limit, looks, rule)
        self.assertEqual(caught.exception.word, word)

    def test_the_greatest_limit(self):
        self.assertEqual(Table.LONGEST, 30)
        self.assertEqual(small_table().LONGEST, 30)

    def test_limits(self):
        for limit in (1, 2, 29, 30):
            table = Table(limit, [limit], full_rule(limit))
            self.assertEqual((table.limit, table.looks), (limit, (limit,)))
        for limit in (0, -1, 31, 32, 10 ** 999, -10 ** 999):
            self.assert_invalid("limit", limit, [limit], {})
        self.assert_invalid("limit", 31, [31], full_rule(31))

    def test_looks(self):
        for looks in ([2], [1, 2], (2,), (1, 2)):
            self.assertEqual(Table(2, looks, LAST).looks, tuple(looks))
        for looks in ([], (), [1], [0, 2], [-1, 2], [2, 1], [2, 2], [1, 1, 2], [1, 2, 3], [3], [1, 2, 2], [0, 1, 2],
                      [2, 3, 2], [10 ** 999]):
            self.assert_invalid("looks", 2, looks, LAST)
            self.assert_invalid("looks", 2, tuple(looks), LAST)

    def test_rules(self):
        self.assert_invalid("rule", 2, [2], {})
        for count in LAST:
            self.assert_invalid("rule", 2, [1, 2], {other: LAST[other] for other in LAST if other != count})
        for count in ((0, 0), (-1, 1), (1, -1), (-1, 3), (3, -1), (-1, -1), (3, 0), (1, 2), (0, 3), (-2, 3),
                      (10 ** 999, 1 - 10 ** 999)):
            self.assert_invalid("rule", 2, [1, 2], {**LAST, count: "no word"})
            self.assert_invalid("rule", 2, [1, 2], {count: "no word", **LAST})

    def test_counts_that_are_no_look(self):
        table = Table(3, [3], {**full_rule(3), (1, 0): "below 1/3", (1, 1): "at least 1/3"})
        self.assertEqual(table.word_at(1, 0), "below 1/3")
        self.assertFalse(table.is_end(1, 0))
        self.assertEqual(table.words, ("no word",))

    def test_which_error_comes_first(self):
        self.assert_invalid("limit", 31, [0], {(0, 0): "?"})
        self.assert_invalid("limit", 0, [], {})
        self.assert_invalid("looks", 2, [1], {(0, 0): "?"})
        self.assert_invalid("looks", 2, [1], {**LAST, (1, 1): "?"})
        self.assert_invalid("rule", 2, [2], {(2, 0): "?", (1, 1): "?"})
        self.assert_invalid("rule", 2, [2], {**full_rule(2, "?"), (-1, 2): "no word"})
        self.assert_wrong_word("?", 2, [2], {**LAST, (1, 1): "?"})

    def test_the_first_text_that_is_no_word(self):
        rule = {(2, 0): "a", (1, 1): "b", (0, 2): "c", (1, 0): "d", (0, 1): "e"}
        for count in ((0, 1), (1, 0), (0, 2), (1, 1), (2, 0)):
            self.assert_wrong_word(rule[count], 2, [2], rule)
            self.assert_wrong_word(rule[count], 2, [1, 2], {key: rule[key] for key in reversed(rule)})
            rule[count] = "no word"
        self.assertEqual(len(Table(2, [2], rule)), 3)

    def test_wrong_words_at_counts_that_are_never_reached(self):
        self.assert_wrong_word("below 2/4", 3, [1, 3], {**full_rule(3), (1, 0): "no word", (2, 0): "below 2/4"})
        self.assert_wrong_word("", 3, [3], {**full_rule(3), (1, 1): ""})
        self.assert_wrong_word("no word\n", 1, [1], {(0, 1): "no word", (1, 0): "no word\n"})

    def test_an_error_changes_nothing(self):
        rule, looks = {**LAST, (1, 0): "?"}, [2]
        self.assert_wrong_word("?", 2, looks, rule)
        self.assertEqual((rule, looks), ({**LAST, (1, 0): "?"}, [2]))


class ReadingTest(unittest.TestCase):
    def test_by_hand(self):
        table = small_table()
        self.assertEqual(table.ends(), [(0, 1, "below 1/2"), (1, 1, "no word"), (2, 0, "at least 1/2")])
        self.assertEqual((table.limit, table.looks, len(table)), (2, (1, 2), 3))
        self.assertEqual(table.words, ("below 1/2", "no word", "at least 1/2"))
        self.assertIs(type(table.looks), tuple)
        self.assertIs(type(table.words), tuple)
        self.assertIs(type(table.ends()), list)
        self.assertEqual([table.ways(*count) for count in ((0, 0), (1, 0), (0, 1), (2, 0), (1, 1), (0, 2))],
                         [1, 1, 1, 1, 1, 0])

    def test_the_rule_is_in_order(self):
        expected = [((0, 1), "below 1/2"), ((0, 2), "below 1/2"), ((1, 1), "no word"), ((2, 0), "at least 1/2")]
        self.assertEqual(list(small_table().rule().items()), expected)
        for seed in range(5):
            table = some_table(seed, 7)
            counts = list(table.rule())
            self.assertEqual(counts, sorted(counts, key=lambda count: (sum(count), count[0])))

    def test_words_at_counts(self):
        table = small_table()
        for count in counts_of(0) + counts_of(1) + counts_of(2) + counts_of(3) + [(-1, 2), (3, -1), (-1, -1)]:
            self.assertEqual(table.word_at(*count), RULE.get(count))
        self.assertEqual(table.word_at(wins=2, losses=0), "at least 1/2")

    def test_counts_below_zero_and_beyond_the_limit(self):
        for table in (small_table(), some_table(3, 6), long_table()):
            limit = table.limit
            for count in ((-1, 0), (0, -1), (-1, 2), (2, -1), (-1, limit + 1), (limit + 1, -1), (limit + 1, 0),
                          (0, limit + 1), (1, limit), (limit, 1), (10 ** 999, -10 ** 999), (10 ** 999, 0), (-3, -4)):
                self.assertIs(table.is_end(*count), False)
                self.assertIsNone(table.word_at(*count))
                self.assertEqual(table.ways(*count), 0)
                self.assertNotIn(count, table)

    def test_ends_that_are_not_reached(self):
        table = small_table()
        self.assertIs(table.is_end(0, 2), True)
        self.assertNotIn((0, 2), table)
        self.assertEqual(table.ways(0, 2), 0)
        self.assertIn((0, 1), table)
        self.assertNotIn((1, 0), table)
        self.assertNotIn((0, 0), table)
        self.assertIs((2, 0) in table, True)
        self.assertIs(table.is_end(0, 0), False)
        self.assertIs(table.is_end(1, 0), False)

    def test_words_that_are_never_said(self):
        table = Table(3, [1, 3], {**full_rule(3, "below 1/2"), (0, 1): "no word", (2, 0): "at least 1/9",
                                  (0, 3): "at least 1/3"})
        self.assertEqual(table.words, ("no word", "below 1/2"))
        self.assertEqual(table.ends(), [(0, 1, "no word"), (1, 2, "below 1/2"), (2, 1, "below 1/2"),
                                        (3, 0, "below 1/2")])

    def test_all_orders(self):
        for seed in range(40):
            table = some_table(seed, 1 + seed % 9)
            ended = all_trials(table.limit, table.looks, table.rule())
            many = {}
            for results in ended:
                for tries in range(len(results) + 1):
                    count = (sum(results[:tries]), tries - sum(results[:tries]))
                    many.setdefault(count, {})[results[:tries]] = True
            reached = sorted(set(ended.values()), key=lambda count: (sum(count), count[0]))
            self.assertEqual(table.ends(), [(*count, table.word_at(*count)) for count in reached])
            self.assertEqual(len(table), len(reached))
            self.assertEqual(list(table.words), list(dict.fromkeys(word for _, _, word in table.ends())))
            for tries in range(table.limit + 2):
                for count in counts_of(tries):
                    self.assertEqual(table.ways(*count), len(many.get(count, {})))
                    self.assertIs(count in table, count in reached)
                    self.assertIs(table.is_end(*count), tries in table.looks and count in table.rule())

    def test_the_longest_tables(self):
        rule = {count: "no word" for tries in range(1, 31) for count in counts_of(tries)}
        self.assertEqual(Table(30, list(range(1, 31)), rule).ends(), [(0, 1, "no word"), (1, 0, "no word")])
        table = Table(30, [30], rule)
        self.assertEqual(len(table), 31)
        self.assertEqual(table.ways(15, 15), 155117520)
        self.assertEqual(len(table.rule()), 495)


class CopiesTest(unittest.TestCase):
    def test_what_was_passed_may_be_changed(self):
        looks, rule = [1, 2], dict(RULE)
        table = Table(2, looks, rule)
        self.assertEqual((looks, rule), ([1, 2], RULE))
        self.assertEqual(list(rule), list(RULE))
        looks.append(7)
        rule[1, 1] = "?"
        rule[1, 0] = "no word"
        del rule[0, 1]
        self.assertEqual(table, small_table())
        self.assertEqual((table.rule(), table.looks), (RULE, (1, 2)))
        self.assertEqual(table.ends(), small_table().ends())

    def test_what_is_returned_may_be_changed(self):
        table = small_table()
        rule, ends = table.rule(), table.ends()
        rule.clear()
        ends.append((9, 9, "?"))
        ends[0] = None
        self.assertEqual(table, small_table())
        self.assertEqual((table.rule(), table.ends()), (RULE, small_table().ends()))
        more = table.with_look(1).rule()
        more[1, 0] = "no word"
        self.assertEqual(table.rule(), RULE)


class EqualityTest(unittest.TestCase):
    def test_equal_tables(self):
        self.assertTrue(small_table() == small_table())
        self.assertTrue(Table(2, (1, 2), {count: RULE[count] for count in reversed(RULE)}) == small_table())
        self.assertFalse(small_table() != small_table())

    def test_unequal_tables(self):
        table = small_table()
        for other in (Table(2, [2], RULE), Table(2, [1, 2], {**RULE, (0, 2): "no word"}),
                      Table(2, [1, 2], {**RULE, (1, 0): "no word"}),
                      Table(2, [1, 2], {count: RULE[count] for count in RULE if count != (0, 1)}),
                      Table(1, [1], full_rule(1)), Table(3, [1, 2, 3], {**RULE, **full_rule(3)})):
            self.assertIs(table == other, False)
            self.assertIs(other == table, False)
            self.assertIs(table != other, True)

    def test_counts_that_are_not_reached_count(self):
        first = Table(2, [1, 2], {**full_rule(2), **full_rule(1)})
        second = Table(2, [1, 2], {**full_rule(2, "below 1/2"), **full_rule(1)})
        self.assertEqual(first.ends(), second.ends())
        self.assertFalse(first == second)
        self.assertFalse(Table(2, [2], full_rule(2)) == Table(2, [2], {**full_rule(2), (1, 0): "no word"}))

    def test_other_things(self):
        table = small_table()
        for other in (None, 2, (), RULE, "table", (2, (1, 2), RULE), table.ends()):
            self.assertIs(table == other, False)
            self.assertIs(other == table, False)
            self.assertIs(table != other, True)


class LooksTest(unittest.TestCase):
    def assert_refused(self, call):
        with self.assertRaises(InvalidTable) as caught:
            call()
        self.assertEqual(caught.exception.place, "looks")

    def test_one_more(self):
        table = some_table(8, 6)
        for tries in range(1, 7):
            more = table.with_look(tries)
            self.assertIsInstance(more, Table)
            self.assertEqual(more.looks, tuple(sorted({*table.looks, tries})))
            self.assertEqual((more.limit, more.rule()), (6, table.rule()))
            self.assertEqual(more == table, tries in table.looks)

    def test_one_less(self):
        table = some_table(8, 6)
        for tries in range(1, 6):
            less = table.without_look(tries)
            self.assertIsInstance(less, Table)
            self.assertEqual(less.looks, tuple(look for look in table.looks if look != tries))
            self.assertEqual((less.limit, less.rule()), (6, table.rule()))
            self.assertEqual(less == table, tries not in table.looks)

    def test_numbers_that_are_refused(self):
        for table in (some_table(8, 6), small_table(), long_table(), Table(1, [1], full_rule(1))):
            limit = table.limit
            before = (table.looks, table.rule(), table.ends())
            for tries in (0, -1, -limit, limit + 1, limit + 2, 31, 10 ** 999, -10 ** 999):
                self.assert_refused(lambda: table.with_look(tries))
                self.assert_refused(lambda: table.without_look(tries))
            self.assert_refused(lambda: table.without_look(limit))
            self.assertTrue(table.with_look(limit) == table)
            self.assertEqual((table.looks, table.rule(), table.ends()), before)

    def test_there_and_back(self):
        table = small_table()
        self.assertEqual(table.without_look(1).looks, (2,))
        self.assertTrue(table.without_look(1).with_look(1) == table)
        self.assertEqual(table.looks, (1, 2))


if __name__ == "__main__":
    unittest.main()
