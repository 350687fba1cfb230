"""Ratios: exact fractions."""

from math import gcd

from fontgap.checks import is_digits, is_whole
from fontgap.errors import InvalidNumber


class Ratio:
    """An exact fraction in lowest terms with a positive bottom."""

    MOST_TEXT = 100

    def __init__(self, top, bottom=1):
        if not is_whole(top):
            raise InvalidNumber(top)
        if not is_whole(bottom) or bottom == 0:
            raise InvalidNumber(bottom)
        common = gcd(top, bottom)
        if bottom < 0:
            common = -common
        self.top = top // common
        self.bottom = bottom // common

    def __add__(self, other):
        if not is_term(other):
            return NotImplemented
        top, bottom = terms(other)
        return Ratio(self.top * bottom + top * self.bottom, self.bottom * bottom)

    def __radd__(self, other):
        return self + other

    def __sub__(self, other):
        if not is_term(other):
            return NotImplemented
        top, bottom = terms(other)
        return Ratio(self.top * bottom - top * self.bottom, self.bottom * bottom)

    def __rsub__(self, other):
        return -self + other

    def __mul__(self, other):
        if not is_term(other):
            return NotImplemented
        top, bottom = terms(other)
        return Ratio(self.top * top, self.bottom * bottom)

    def __rmul__(self, other):
        return self * other

    def __neg__(self):
        return Ratio(-self.top, self.bottom)

    def __abs__(self):
        return Ratio(abs(self.top), self.bottom)

    def __eq__(self, other):
        return isinstance(other, Ratio) and self.top == other.top and self.bottom == other.bottom

    def __str__(self):
        if self.bottom == 1:
            return f"{written(self.top)}"
        return f"{written(self.top)}/{written(self.bottom)}"

    def __repr__(self):
        return f"Ratio({written(self.top)}, {written(self.bottom)})"

    def compare(self, other):
        """Return -1, 0 or 1 if this is less than, equal to or greater than a ratio or an integer."""
        if not is_term(other):
            raise InvalidNumber(other)
        top, bottom = terms(other)
        difference = self.top * bottom - top * self.bottom
        if difference < 0:
            return -1
        if difference > 0:
            return 1
        return 0

    def floor(self):
        """Return the greatest integer that is not greater than the ratio."""
        return self.top // self.bottom

    def ceiling(self):
        """Return the least integer that is not less than the ratio."""
        return -(-self.top // self.bottom)

    @staticmethod
    def read(text):
        """Return the ratio whose str is the text, or raise InvalidNumber."""
        if not isinstance(text, str) or len(text) > Ratio.MOST_TEXT:
            raise InvalidNumber(text)
        top, slash, bottom = text.partition("/")
        if slash == "":
            bottom = "1"
        if not is_digits(top.removeprefix("-")) or not is_digits(bottom) or int(bottom) == 0:
            raise InvalidNumber(text)
        ratio = Ratio(int(top), int(bottom))
        # Each ratio has one written form only, so this refuses all others: "6/8", "03", "-0".
        if str(ratio) != text:
            raise InvalidNumber(text)
        return ratio


def is_term(value):
    """Tell whether a value may stand beside a ratio: a ratio or an integer."""
    return isinstance(value, Ratio) or is_whole(value)


def terms(value):
    """Return the top and the bottom of a ratio or an integer."""
    if isinstance(value, Ratio):
        return value.top, value.bottom
    return value, 1


def written(number):
    """Return an integer in decimal digits.

    It is written in pieces, because Python refuses to write more than a few thousand digits at once.
    """
    piece = 10 ** 64
    rest = abs(number)
    pieces = []
    while rest >= piece:
        rest, low = divmod(rest, piece)
        pieces.append(f"{low:064d}")
    sign = "-" if number < 0 else ""
    digits = "".join(pieces[::-1])
    return f"{sign}{rest}{digits}"
