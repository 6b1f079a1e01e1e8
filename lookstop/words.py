"""Words about the true share: `at least A/B`, `below A/B` and `no word`."""

from lookstop.errors import InvalidWord
from lookstop.ratios import compare, is_share

NO_WORD = "no word"
KINDS = ("at least", "below")
DIGITS = "0123456789"
MOST_DIGITS = 30


def at_least(share):
    """Return the word that the true share is not less than this one."""
    return _checked(f"at least {share[0]}/{share[1]}")


def below(share):
    """Return the word that the true share is less than this one."""
    return _checked(f"below {share[0]}/{share[1]}")


def read_word(word):
    """Return the kind of a word and its share: ("at least", share), ("below", share) or ("no word", None)."""
    if word == NO_WORD:
        return (NO_WORD, None)
    for kind in KINDS:
        if word.startswith(kind + " "):
            return (kind, _read_share(word, word[len(kind) + 1:]))
    raise InvalidWord(word)


def is_wrong(word, share):
    """Tell whether the word is wrong if the true share is this one."""
    kind, named = read_word(word)
    if kind == "at least":
        return compare(share, named) < 0
    if kind == "below":
        return compare(share, named) >= 0
    return False


def is_word(text):
    """Tell whether the text is a word."""
    try:
        read_word(text)
    except InvalidWord:
        return False
    return True


def is_number(text):
    """Tell whether the text is an integer from 1 upwards without leading zeros and not too long.

    `isdigit` would take the digits of other scripts, too.
    """
    if not 1 <= len(text) <= MOST_DIGITS or text[0] == "0":
        return False
    return all([letter in DIGITS for letter in text])


def _checked(word):
    """Return the text if it is a word."""
    read_word(word)
    return word


def _read_share(word, text):
    """Return the share that stands at the end of a word, strictly between 0 and 1."""
    parts = text.split("/")
    if len(parts) != 2 or not is_number(parts[0]) or not is_number(parts[1]):
        raise InvalidWord(word)
    # No number is 0 here, so the share is not 0 either.
    share = (int(parts[0]), int(parts[1]))
    if not is_share(share) or share == (1, 1):
        raise InvalidWord(word)
    return share
