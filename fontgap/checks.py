"""Checks of numbers that several modules share."""

from fontgap.errors import InvalidNumber


def is_whole(value):
    """Tell whether a value is an integer. True and False are none."""
    return isinstance(value, int) and not isinstance(value, bool)


def is_between(value, low, high):
    """Tell whether a value is an integer from low to high."""
    return is_whole(value) and low <= value <= high


def check_between(value, low, high):
    """Raise InvalidNumber unless the value is an integer from low to high."""
    if not is_between(value, low, high):
        raise InvalidNumber(value)


def check_measure(measure):
    """Raise InvalidNumber unless the measure is an integer that is at least 0."""
    if not is_whole(measure) or measure < 0:
        raise InvalidNumber(measure)


def is_digits(text):
    """Tell whether a text consists of at least one character, all of them from 0 to 9."""
    return text.isascii() and text.isdigit()
