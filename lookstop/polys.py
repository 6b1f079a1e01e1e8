"""Polynomials in one variable, the share, with integer coefficients."""

from lookstop.errors import NotExact
from lookstop.judging import is_nowhere_negative
from lookstop.ratios import is_integer
from lookstop.rows import derived, negated, path_row, plus, power, quotient, times, trimmed, value_ratio


class Poly:
    """A polynomial. `coefs` is the tuple of its coefficients, from the lowest power upwards; it never changes."""

    def __init__(self, *coefs):
        self.coefs = trimmed(coefs)

    @classmethod
    def of(cls, coefs):
        """Return the polynomial with the coefficients of a list or a tuple."""
        return cls(*coefs)

    @classmethod
    def path(cls, wins, losses):
        """Return the share to the power `wins` times (1 minus the share) to the power `losses`."""
        row = path_row(wins, losses)
        return cls(*row)

    @property
    def degree(self):
        """The greatest power with a coefficient that is not zero, -1 for the zero polynomial."""
        return len(self.coefs) - 1

    def derivative(self):
        """Return the derivative."""
        row = derived(self.coefs)
        return Poly(*row)

    def __call__(self, at):
        num, den = at
        return value_ratio(self.coefs, num, den)

    def __len__(self):
        return len(self.coefs)

    def __repr__(self):
        texts = [str(coef) for coef in self.coefs]
        return f"Poly({', '.join(texts)})"

    def __iter__(self):
        return iter(self.coefs)

    def __getitem__(self, at):
        if 0 <= at < len(self.coefs):
            return self.coefs[at]
        return 0

    def __add__(self, other):
        row = _row_of(other)
        if row is None:
            return NotImplemented
        total = plus(self.coefs, row)
        return Poly(*total)

    def __radd__(self, other):
        return self + other

    def __neg__(self):
        row = negated(self.coefs)
        return Poly(*row)

    def __sub__(self, other):
        row = _row_of(other)
        if row is None:
            return NotImplemented
        total = plus(self.coefs, negated(row))
        return Poly(*total)

    def __rsub__(self, other):
        row = _row_of(other)
        if row is None:
            return NotImplemented
        total = plus(row, negated(self.coefs))
        return Poly(*total)

    def __mul__(self, other):
        row = _row_of(other)
        if row is None:
            return NotImplemented
        total = times(self.coefs, row)
        return Poly(*total)

    def __rmul__(self, other):
        return self * other

    def __floordiv__(self, other):
        divisor = _row_of(other)
        if divisor is None:
            return NotImplemented
        row = quotient(self.coefs, divisor)
        if row is None:
            raise NotExact("no polynomial with integer coefficients is the quotient")
        return Poly(*row)

    def __pow__(self, other):
        if not is_integer(other):
            return NotImplemented
        row = power(self.coefs, other)
        return Poly(*row)

    def __eq__(self, other):
        return isinstance(other, Poly) and self.coefs == other.coefs

    def __le__(self, other):
        row = _row_of(other)
        if row is None:
            return NotImplemented
        return is_nowhere_negative(plus(row, negated(self.coefs)))

    def __ge__(self, other):
        row = _row_of(other)
        if row is None:
            return NotImplemented
        return is_nowhere_negative(plus(self.coefs, negated(row)))


def _row_of(value):
    """Return the row of a polynomial or an integer, None for any other value."""
    if isinstance(value, Poly):
        return value.coefs
    if is_integer(value):
        return trimmed((value,))
    return None
