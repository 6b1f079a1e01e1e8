"""Points 18 and 19: words, and the shares at which they are wrong."""

import unittest

from lookstop.errors import InvalidWord, StopError
from lookstop.words import at_least, below, is_word, is_wrong, read_word

LONG = 10 ** 30 - 1
WORDS = {
    "at least 1/2": ("at least", (1, 2)),
    "below 1/2": ("below", (1, 2)),
    "below 2/3": ("below", (2, 3)),
    "at least 99/100": ("at least", (99, 100)),
    "at least 10/101": ("at least", (10, 101)),
    f"below 1/{LONG}": ("below", (1, LONG)),
    f"at least {LONG - 1}/{LONG}": ("at least", (LONG - 1, LONG)),
    "no word": ("no word", None),
}
NO_WORDS = (
    # Shares that are not in lowest terms, or not strictly between 0 and 1.
    "at least 2/4", "below 3/9", "at least 0/1", "at least 1/1", "below 0/1", "below 1/1", "below 0/5", "below 3/3",
    "at least 3/2", "below 2/1", "at least 1/0", "at least 0/0", "below 5/0",
    # Leading zeros, signs, and digits that are none.
    "at least 01/2", "at least 1/02", "below 00/1", "at least +1/2", "at least -1/2", "below 1/-2", "below -1/-2",
    "at least 1/+2", "at least a/2", "at least 1/b", "at least 1.0/2", "at least 1_0/21", "at least 0x1/2",
    "at least \u00b9/2", "at least \u0661/2", "below 1/\u0662", "at least \u00bd", "below \uff11/2",
    # More than 30 digits.
    f"below 1/{10 ** 30}", f"at least {10 ** 30}/{10 ** 30 + 1}", f"below {10 ** 999}/{10 ** 999 + 1}",
    "at least 1/" + "3" * 5000, "at least " + "0" * 30 + "1/2",
    # Spaces.
    " at least 1/2", "at least 1/2 ", "at least  1/2", "at  least 1/2", "at least 1 /2", "at least 1/ 2",
    "at least\t1/2", "at least\n1/2", "atleast 1/2", "at least1/2", "below1/2", "below  1/2", "below 1/2 ", " below 1/2",
    "below 1 / 2", "no  word", " no word", "no word ", "noword", "no\u00a0word", "at\u00a0least 1/2",
    # Line feeds.
    "at least 1/2\n", "\nat least 1/2", "below 1/2\n", "below 1/2\r", "no word\n", "\nno word", "below 1\n/2",
    # Capital letters and other texts.
    "At least 1/2", "AT LEAST 1/2", "Below 1/2", "No word", "NO WORD", "", " ", "at least", "at least ", "below",
    "below ", "below /", "below 1/", "below /2", "at least 1", "at least 12", "at least 1/2/3", "at least 1//2",
    "at least 1/2 1/3", "below at least 1/2", "at most 1/2", "above 1/2", "less 1/2", "1/2", "no", "word", "no word 1/2",
    "no word/2", "below no word", "None",
)


class WordsTest(unittest.TestCase):
    def assert_refused(self, call, word):
        with self.assertRaises(InvalidWord) as caught:
            call()
        self.assertEqual(caught.exception.word, word)
        self.assertIsInstance(caught.exception, StopError)

    def test_reading(self):
        for word, expected in WORDS.items():
            self.assertEqual(read_word(word), expected)
            self.assertIs(type(read_word(word)), tuple)
            self.assertTrue(is_word(word))

    def test_texts_that_are_no_word(self):
        self.assertEqual(len(set(NO_WORDS)), len(NO_WORDS))
        for word in NO_WORDS:
            self.assert_refused(lambda: read_word(word), word)
            self.assert_refused(lambda: is_wrong(word, (1, 2)), word)
            self.assertFalse(is_word(word))

    def test_writing(self):
        for word, (kind, share) in WORDS.items():
            if kind == "at least":
                self.assertEqual(at_least(share), word)
            if kind == "below":
                self.assertEqual(below(share), word)
        self.assertEqual(at_least((2, 3)), "at least 2/3")
        self.assertEqual(below((2, 3)), "below 2/3")

    def test_writing_what_would_be_no_word(self):
        self.assert_refused(lambda: at_least((0, 1)), "at least 0/1")
        self.assert_refused(lambda: at_least((1, 1)), "at least 1/1")
        self.assert_refused(lambda: below((0, 1)), "below 0/1")
        self.assert_refused(lambda: below((1, 1)), "below 1/1")
        great = 10 ** 30
        for share in ((1, great), (great, great + 1), (1, 10 ** 999), (10 ** 999, 10 ** 999 + 1)):
            self.assert_refused(lambda: at_least(share), f"at least {share[0]}/{share[1]}")
            self.assert_refused(lambda: below(share), f"below {share[0]}/{share[1]}")
        self.assert_refused(lambda: at_least((3, 2)), "at least 3/2")
        self.assert_refused(lambda: below((-1, 2)), "below -1/2")

    def test_thirty_digits_may_be_written(self):
        self.assertEqual(at_least((LONG - 1, LONG)), f"at least {LONG - 1}/{LONG}")
        self.assertEqual(below((1, LONG)), f"below 1/{LONG}")


class WrongTest(unittest.TestCase):
    def test_by_hand(self):
        self.assertEqual([is_wrong(word, (1, 2)) for word in ("at least 1/2", "below 1/2", "no word")],
                         [False, True, False])
        self.assertEqual([is_wrong(word, (0, 1)) for word in ("at least 1/2", "below 1/2", "no word")],
                         [True, False, False])
        self.assertEqual([is_wrong(word, (1, 1)) for word in ("at least 1/2", "below 1/2", "no word")],
                         [False, True, False])

    def test_beside_the_share_of_the_word(self):
        great = 10 ** 999
        for num, den in ((1, 2), (2, 3), (1, LONG), (LONG - 1, LONG)):
            less = (num * great - 1, den * great)
            more = (num * great + 1, den * great)
            for share, wrong in ((less, [True, False]), ((num, den), [False, True]), (more, [False, True])):
                found = [is_wrong(f"at least {num}/{den}", share), is_wrong(f"below {num}/{den}", share)]
                self.assertEqual(found, wrong)
                self.assertTrue(all(answer is True or answer is False for answer in found))
                self.assertIs(is_wrong("no word", share), False)


if __name__ == "__main__":
    unittest.main()
