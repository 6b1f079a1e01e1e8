"""Points 51 and 52: the text form of a table, written and read."""

import unittest

from lookstop.errors import InvalidText, StopError
from lookstop.notation import read_table, write_table
from lookstop.tables import Table
from tests.some_tables import RULE, counts_of, long_table, silent_table, small_table, some_table

SMALL = "limit 2\nlooks 1 2\n0 1 below 1/2\n0 2 below 1/2\n1 1 no word\n2 0 at least 1/2"
FIRST = "limit 2\nlooks 1 2\n"
LAST = "0 2 no word\n1 1 no word\n2 0 no word"
NO_NUMBERS = ("", "00", "01", "+1", "-1", "-0", "1.0", "1_0", "0x1", "a", "one", "\u0661", "\u00b2", "\uff11", "1\t",
              "1\r", "\u00a01", "1,", "1e0", "9" * 5000, "True", "None")


class WriteTest(unittest.TestCase):
    def test_by_hand(self):
        self.assertEqual(write_table(small_table()), SMALL)
        self.assertEqual(write_table(Table(1, [1], {(1, 0): "no word", (0, 1): f"below 1/{10 ** 29}"})),
                         f"limit 1\nlooks 1\n0 1 below 1/{10 ** 29}\n1 0 no word")

    def test_the_order_of_the_counts(self):
        rule = {(2, 0): "no word", (1, 0): "no word", (0, 2): "no word", (1, 1): "no word", (0, 1): "no word"}
        self.assertEqual(write_table(Table(2, (2,), rule)),
                         "limit 2\nlooks 2\n0 1 no word\n1 0 no word\n0 2 no word\n1 1 no word\n2 0 no word")

    def test_counts_that_are_not_reached_and_no_look(self):
        rule = {**RULE, (1, 0): "at least 2/3"}
        self.assertIn("\n1 0 at least 2/3\n", write_table(Table(2, [2], rule)))

    def test_the_longest_tables(self):
        lines = write_table(silent_table(30)).split("\n")
        self.assertEqual(lines[:3] + lines[-1:], ["limit 30", "looks 30", "0 30 no word", "30 0 no word"])
        self.assertEqual(len(lines), 33)
        rule = {count: "no word" for tries in range(1, 31) for count in counts_of(tries)}
        every = Table(30, list(range(1, 31)), rule)
        lines = write_table(every).split("\n")
        self.assertEqual(lines[1], "looks " + " ".join(str(look) for look in range(1, 31)))
        self.assertEqual(len(lines), 497)
        self.assertEqual(read_table(write_table(every)), every)


class ReadTest(unittest.TestCase):
    def assert_invalid(self, text, line):
        with self.assertRaises(InvalidText, msg=repr(text[:200])) as caught:
            read_table(text)
        self.assertEqual(caught.exception.line, line, repr(text[:200]))
        self.assertIsInstance(caught.exception, StopError)

    def test_what_was_written_is_read(self):
        self.assertEqual(read_table(SMALL), small_table())
        for table in [some_table(seed, 1 + seed % 30, 10 ** (1 + seed % 30)) for seed in range(60)] + [long_table()]:
            text = write_table(table)
            again = read_table(text)
            self.assertIsInstance(again, Table)
            self.assertEqual(again, table)
            self.assertEqual(write_table(again), text)

    def test_the_empty_text(self):
        self.assert_invalid("", 1)
        self.assert_invalid("\n", 1)
        self.assert_invalid("\n\n\n", 1)

    def test_the_first_line(self):
        for line in ("limit", "limit ", "limit 0", "limit 31", "limit 99", "limit 100", "limit  2", " limit 2",
                     "limit 2 ", "limit 2 2", "Limit 2", "LIMIT 2", "limits 2", "looks 2", "2", "limit\t2", "limit2",
                     "limit 2\r", "limit 2 \t", "limit two", "limit: 2"):
            self.assert_invalid(line, 1)
            self.assert_invalid(f"{line}\nlooks 1 2\n{LAST}", 1)
        for number in NO_NUMBERS:
            self.assert_invalid(f"limit {number}", 1)
            self.assert_invalid(f"limit {number}\nlooks 1\n0 1 no word\n1 0 no word", 1)
        for limit in (1, 9, 10, 30):
            self.assertEqual(read_table(write_table(silent_table(limit))).limit, limit)

    def test_the_second_line(self):
        for line in ("", "looks", "looks ", "looks 1", "looks 0 2", "looks 2 2", "looks 2 1", "looks 1 2 3", "looks 3",
                     "looks 1 1 2", "looks  1 2", "looks 1  2", "looks 1 2 ", " looks 1 2", "Looks 1 2", "look 1 2",
                     "1 2", "looks 1,2", "looks 1\t2", "looks 12", "looks 2 3", "limit 2", "looks 1 2\r", "looks: 1 2",
                     "looks1 2", "looks\t2"):
            self.assert_invalid(f"limit 2\n{line}", 2)
            self.assert_invalid(f"limit 2\n{line}\n{LAST}", 2)
        for number in NO_NUMBERS:
            self.assert_invalid(f"limit 2\nlooks {number} 2\n{LAST}", 2)
            self.assert_invalid(f"limit 2\nlooks 1 {number}\n{LAST}", 2)
        self.assertEqual(read_table(f"limit 2\nlooks 2\n{LAST}").looks, (2,))
        self.assertEqual(read_table(f"limit 2\nlooks 1 2\n{LAST}").looks, (1, 2))

    def test_later_lines(self):
        for line in ("", " ", "0", "0 1", "0 1 ", "0 1  no word", "0  1 no word", " 0 1 no word", "0 1 no word ",
                     "0 1 no", "0 1 below 2/4", "0 1 below 1/1", "0 1 at least 0/1", "0 1 at least  1/2", "0 1 NO WORD",
                     "0 0 no word", "0 3 no word", "3 0 no word", "2 1 no word", "0,1 no word", "0 1\tno word",
                     "0 1 below 01/2", "0 1 below 1/2 ", "0 1 below 1 / 2", "no word", "0 no word", "1 0 1 no word",
                     f"0 1 below 1/{10 ** 30}", "0 1 no word\r", "limit 2", "looks 1 2"):
            self.assert_invalid(f"{FIRST}{line}", 3)
            self.assert_invalid(f"{FIRST}{line}\n{LAST}", 3)
            self.assert_invalid(f"{FIRST}0 1 no word\n{line}\n{LAST}", 4)
            self.assert_invalid(f"{FIRST}{LAST}\n{line}", 6)
            self.assert_invalid(f"{FIRST}{LAST}\n{line}\n?", 6)
        for number in NO_NUMBERS:
            self.assert_invalid(f"{FIRST}{number} 1 no word\n{LAST}", 3)
            self.assert_invalid(f"{FIRST}1 {number} no word\n{LAST}", 3)
        self.assertEqual(len(read_table(f"{FIRST}0 1 no word\n1 0 no word\n{LAST}").rule()), 5)

    def test_counts_out_of_order_and_twice(self):
        self.assert_invalid(f"{FIRST}1 0 no word\n0 1 no word\n{LAST}", 4)
        self.assert_invalid(f"{FIRST}0 1 no word\n0 1 no word\n{LAST}", 4)
        self.assert_invalid(f"{FIRST}0 1 no word\n0 1 below 1/2\n{LAST}", 4)
        self.assert_invalid(f"{FIRST}0 2 no word\n0 1 no word\n1 1 no word\n2 0 no word", 4)
        self.assert_invalid(f"{FIRST}0 2 no word\n2 0 no word\n1 1 no word", 5)
        self.assert_invalid(f"{FIRST}{LAST}\n2 0 no word", 6)
        self.assert_invalid(f"{FIRST}{LAST}\n1 0 no word", 6)
        # More tries, though fewer wins, and more wins, though fewer losses, are in order.
        text = f"limit 3\nlooks 3\n1 0 no word\n0 2 no word\n2 0 no word\n{write_table(silent_table(3))[16:]}"
        self.assertEqual(write_table(read_table(text)), text)

    def test_missing_lines(self):
        self.assert_invalid("limit 2", 2)
        self.assert_invalid("limit 30", 2)
        self.assert_invalid("limit 2\nlooks 1 2", 3)
        self.assert_invalid("limit 1\nlooks 1\n0 1 no word", 4)
        self.assert_invalid("limit 1\nlooks 1\n1 0 no word", 4)
        self.assert_invalid(f"{FIRST}0 1 no word\n1 0 no word", 5)
        lines = SMALL.split("\n")
        for missing in (3, 4, 5):
            self.assert_invalid("\n".join(lines[:missing] + lines[missing + 1:]), 6)
        self.assertEqual(read_table("\n".join(lines[:2] + lines[3:])).ends(),
                         [(0, 2, "below 1/2"), (1, 1, "no word"), (2, 0, "at least 1/2")])

    def test_a_newline_at_the_end(self):
        self.assert_invalid(SMALL + "\n", 7)
        self.assert_invalid(SMALL + "\n\n", 7)
        self.assert_invalid("limit 2\n", 2)
        self.assert_invalid("limit 2\nlooks 1 2\n", 3)

    def test_other_ends_of_lines(self):
        self.assert_invalid(SMALL.replace("\n", "\r\n"), 1)
        for end in ("\r", "\x0b", "\x0c", "\u2028", "\x85", " "):
            self.assert_invalid(SMALL.replace("\n", end), 1)
            self.assert_invalid(SMALL + end, 6)

    def test_the_first_of_several_invalid_lines(self):
        self.assert_invalid("limit 0\nlooks\n?", 1)
        self.assert_invalid("limit 2\nlooks\n?", 2)
        self.assert_invalid("limit 2\nlooks 2\n?\n!\n", 3)
        self.assert_invalid(f"limit 2\nlooks 2\n0 2 no word\n?\n{LAST}", 4)

    def test_each_character_left_out(self):
        # Whatever is read at all has the text as its form.
        lines = SMALL.split("\n")
        for place in range(len(SMALL)):
            text = SMALL[:place] + SMALL[place + 1:]
            try:
                self.assertEqual(write_table(read_table(text)), text)
            except InvalidText as error:
                self.assertLessEqual(SMALL[:place].count("\n") + 1, error.line)
                self.assertLessEqual(error.line, len(lines) + 1)

    def test_each_character_changed(self):
        for place in range(len(SMALL)):
            for letter in "0123 abW/\n-":
                text = SMALL[:place] + letter + SMALL[place + 1:]
                for other in (text, SMALL[:place] + letter + SMALL[place:]):
                    try:
                        self.assertEqual(write_table(read_table(other)), other)
                    except InvalidText as error:
                        self.assertLessEqual(1, error.line)
                        self.assertLessEqual(error.line, other.count("\n") + 2)


if __name__ == "__main__":
    unittest.main()
