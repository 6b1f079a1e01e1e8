"""The text form of a table, written and read."""

from lookstop.errors import InvalidText
from lookstop.paths import counts_with
from lookstop.tables import Table, are_looks
from lookstop.words import is_number, is_word


def write_table(table):
    """Return the text form of the table."""
    looks = " ".join([str(look) for look in table.looks])
    lines = [f"limit {table.limit}", f"looks {looks}"]
    for (wins, losses), word in table.rule().items():
        lines.append(f"{wins} {losses} {word}")
    return "\n".join(lines)


def read_table(text):
    """Return the table whose text form is the text."""
    lines = text.split("\n")
    limit = _read_limit(lines[0])
    if len(lines) == 1:
        raise InvalidText(2)
    looks = _read_looks(lines[1], limit)
    rule = {}
    latest = (0, 0)
    for number, line in enumerate(lines[2:], 3):
        count, word = _read_count(number, line, limit)
        if not _comes_after(count, latest):
            raise InvalidText(number)
        rule[count] = word
        latest = count
    if not all([count in rule for count in counts_with(limit)]):
        raise InvalidText(len(lines) + 1)
    return Table(limit, looks, rule)


def _read_limit(line):
    """Return the limit that the first line gives."""
    parts = line.split(" ")
    limit = _number(parts[-1])
    if len(parts) != 2 or parts[0] != "limit" or limit is None or not 1 <= limit <= Table.LONGEST:
        raise InvalidText(1)
    return limit


def _read_looks(line, limit):
    """Return the list of the looks that the second line gives."""
    parts = line.split(" ")
    looks = [_number(part) for part in parts[1:]]
    if parts[0] != "looks" or None in looks or not are_looks(limit, looks):
        raise InvalidText(2)
    return looks


def _read_count(number, line, limit):
    """Return the count and the word that the line with this number gives."""
    parts = line.split(" ", 2)
    if len(parts) == 3 and is_word(parts[2]):
        wins, losses = (_number(parts[0]), _number(parts[1]))
        if wins is not None and losses is not None and 1 <= wins + losses <= limit:
            return ((wins, losses), parts[2])
    raise InvalidText(number)


def _number(text):
    """Return the integer from 0 upwards that the text writes, or None."""
    if text == "0" or is_number(text):
        return int(text)
    return None


def _comes_after(count, other):
    """Tell whether a count comes after another one in ascending order of tries, then of wins."""
    return (sum(count), count[0]) > (sum(other), other[0])
