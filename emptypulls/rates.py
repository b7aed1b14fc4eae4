"""Exact fractions."""

from math import gcd

from emptypulls.digits import is_digits, number_text, read_digits
from emptypulls.errors import BadRate, BadText
from emptypulls.kinds import is_integer


class Rate:
    """An exact fraction, in lowest terms with a denominator above 0."""

    def __init__(self, top, bottom=1):
        if not is_integer(top):
            raise BadRate("top")
        if not is_integer(bottom) or bottom == 0:
            raise BadRate("bottom")
        shared = gcd(top, bottom) if bottom > 0 else -gcd(top, bottom)
        self._top = top // shared
        self._bottom = bottom // shared

    @property
    def top(self):
        return self._top

    @property
    def bottom(self):
        return self._bottom

    def __add__(self, other):
        if not is_fraction(other):
            return NotImplemented
        right = Rate.of(other)
        return Rate(self.top * right.bottom + right.top * self.bottom, self.bottom * right.bottom)

    def __radd__(self, other):
        if not is_fraction(other):
            return NotImplemented
        return self + other

    def __sub__(self, other):
        if not is_fraction(other):
            return NotImplemented
        return self + -Rate.of(other)

    def __rsub__(self, other):
        if not is_fraction(other):
            return NotImplemented
        return -self + other

    def __mul__(self, other):
        if not is_fraction(other):
            return NotImplemented
        right = Rate.of(other)
        return Rate(self.top * right.top, self.bottom * right.bottom)

    def __rmul__(self, other):
        if not is_fraction(other):
            return NotImplemented
        return self * other

    def __neg__(self):
        return Rate(-self.top, self.bottom)

    def over(self, other):
        """Divided by a Rate or an integer."""
        if not is_fraction(other) or other == 0:
            raise BadRate("other")
        right = Rate.of(other)
        return Rate(self.top * right.bottom, self.bottom * right.top)

    def __eq__(self, other):
        return is_fraction(other) and lead(self, other) == 0

    def __lt__(self, other):
        if not is_fraction(other):
            return NotImplemented
        return lead(self, other) < 0

    def __le__(self, other):
        if not is_fraction(other):
            return NotImplemented
        return lead(self, other) <= 0

    def __gt__(self, other):
        if not is_fraction(other):
            return NotImplemented
        return lead(self, other) > 0

    def __ge__(self, other):
        if not is_fraction(other):
            return NotImplemented
        return lead(self, other) >= 0

    def __bool__(self):
        return bool(self.top != 0)

    def __str__(self):
        if self.bottom == 1:
            return f"{number_text(self.top)}"
        return f"{number_text(self.top)}/{number_text(self.bottom)}"

    @classmethod
    def read(cls, text):
        """The Rate with just this text."""
        terms = terms_of(text)
        if terms is None:
            raise BadText(0, 0)
        top, bottom = terms
        rate = cls(top, bottom)
        # Only the text that str writes may stand, so no "6/4", "01" or "-0".
        if str(rate) != text:
            raise BadText(0, 0)
        return rate

    @staticmethod
    def of(value):
        """A Rate itself, an integer as a Rate."""
        if isinstance(value, Rate):
            return value
        if not is_integer(value):
            raise BadRate("value")
        return Rate(value)

    @staticmethod
    def total(some):
        """The sum of a list or tuple of Rates and integers."""
        whole = Rate(0)
        for part in some:
            whole = whole + part
        return whole


def is_fraction(value):
    """Whether a value is a Rate or an integer."""
    return isinstance(value, Rate) or is_integer(value)


def lead(one, other):
    """An integer with the sign of what a Rate has above a Rate or an integer."""
    right = Rate.of(other)
    return one.top * right.bottom - right.top * one.bottom


def terms_of(text):
    """The top and the bottom, other than 0, that any value tells as a text; None if it tells none."""
    if not isinstance(text, str):
        return None
    top, slash, bottom = text.removeprefix("-").partition("/")
    below = bottom if slash == "/" else "1"
    if not is_digits(top) or not is_digits(below) or read_digits(below) == 0:
        return None
    sign = -1 if text.startswith("-") else 1
    return sign * read_digits(top), read_digits(below)
