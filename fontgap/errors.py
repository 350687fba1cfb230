"""The errors that the program raises."""


class FontError(ValueError):
    """The base class of all errors that the program raises."""


class InvalidGlyph(FontError):
    """The value does not name a glyph, or not one of the kind that is asked for."""

    def __init__(self, glyph):
        self.glyph = glyph


class InvalidNumber(FontError):
    """The value is not a number of the kind that is asked for, or is out of range."""

    def __init__(self, value):
        self.value = value


class UnknownGlyph(FontError):
    """The font does not have the glyph."""

    def __init__(self, glyph):
        self.glyph = glyph


class TooMany(FontError):
    """The font already has as many ligatures as it may have."""

    def __init__(self, limit):
        self.limit = limit


class Overlap(FontError):
    """The kern of the pair is more than the advance of one of its glyphs can bear."""

    def __init__(self, left, right):
        self.left = left
        self.right = right


class InUse(FontError):
    """What is to be removed is used by something that stays."""

    def __init__(self, user):
        self.user = user


class DeedRefused(FontError):
    """The deed at the index could not be done."""

    def __init__(self, index):
        self.index = index


class InvalidLine(FontError):
    """The line of a written font is invalid or missing; lines are counted from 1."""

    def __init__(self, line):
        self.line = line


class UnknownLetter(FontError):
    """The character at the index of a text is not one of the letters."""

    def __init__(self, letter, index):
        self.letter = letter
        self.index = index


class InvalidState(FontError):
    """The joined reader has no state with the number."""

    def __init__(self, number):
        self.number = number


class InvalidText(FontError):
    """The blank at the index of a text of words is not between two words."""

    def __init__(self, index):
        self.index = index


class Contradiction(FontError):
    """No values agree with a measurement and with those recorded before it."""

    def __init__(self, combination):
        self.combination = combination


class NameTaken(FontError):
    """The name or label is already there."""

    def __init__(self, name):
        self.name = name


class UnknownName(FontError):
    """There is no such name or label."""

    def __init__(self, name):
        self.name = name


class UnknownKind(FontError):
    """There is no such kind of claim."""

    def __init__(self, kind):
        self.kind = kind


class InvalidOptions(FontError):
    """The names of the options are not those of the kind of claim."""

    def __init__(self, kind):
        self.kind = kind


class NothingToUndo(FontError):
    """There is no change that can be taken back."""


class NoCommonLetters(FontError):
    """The two fonts have no letter in common."""
