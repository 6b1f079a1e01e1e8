"""Decides whether a polynomial is negative at some share, by sign rows on ever shorter stretches."""

from lookstop.squares import split_row


def is_nowhere_negative(row):
    """Tell whether the polynomial with this row is negative at no share from 0 to 1."""
    if len(row) > 0 and (row[0] < 0 or sum(row) < 0):
        return False
    # Without repeated factors the stretches end: on short ones, the sign rows show the signs of the polynomial.
    rest, _ = split_row(row)
    waiting = [unit_row(rest)]
    while waiting:
        signs = waiting.pop()
        if has_negative(signs):
            upper = upper_half(signs)
            # The first entry has the sign at the middle. Where `rest` is zero there, it is negative beside it.
            if upper[0] <= 0:
                return False
            waiting.append(lower_half(signs))
            waiting.append(upper)
    return True


def unit_row(row):
    """Return the sign row, on the stretch from 0 to 1, of the polynomial with this row."""
    return shifted(row[::-1])[::-1]


def upper_half(signs):
    """Return the sign row on the upper half of the stretch of a sign row, up to a positive factor."""
    return [entry << place for place, entry in enumerate(shifted(signs))]


def lower_half(signs):
    """Return the sign row on the lower half of the stretch of a sign row, up to a positive factor."""
    return upper_half(signs[::-1])[::-1]


def shifted(row):
    """Return the coefficients of the polynomial in x that has `row` as its coefficients in x + 1."""
    total = []
    for coef in row[::-1]:
        total = [high + low for high, low in zip([coef] + total, total + [0])]
    return total


def has_negative(signs):
    """Tell whether an entry is negative."""
    return any([entry < 0 for entry in signs])
