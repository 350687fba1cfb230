"""Readers: shaping a text that arrives in pieces."""

from fontgap.rows import check_letters
from fontgap.stepper import START, Stepper


class Reader:
    """Shapes a text that arrives in pieces, with a copy of a font."""

    def __init__(self, font):
        self._font = font.copy()
        self._stepper = Stepper(self._font)
        self._state = START
        self._total = 0

    def feed(self, piece):
        """Read a piece and return the list of glyphs that are decided by now and were not before."""
        check_letters(self._font, piece)
        glyphs, self._state, growth = self._stepper.take(self._state, piece)
        self._total += growth
        return glyphs

    def finish(self):
        """End the text. Return the glyphs of the letters that were held back, and the width of the whole text."""
        glyphs, growth = self._stepper.finish(self._state)
        width = self._total + growth
        self._state = START
        self._total = 0
        return glyphs, width

    @property
    def pending(self):
        """The letters that are held back."""
        return self._state[1]

    @property
    def last(self):
        """The last decided glyph, or "" if there is none."""
        return self._state[0]

    @property
    def total(self):
        """The width of the decided glyphs."""
        return self._total
