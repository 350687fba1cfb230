"""Reading a text from left to right, piece by piece."""

from fontgap.rows import added_width, first_glyph, glyph_row

# The state of the empty text: no decided glyph, no letters held back.
START = ("", "")


class Stepper:
    """The steps of a text that is read with a font.

    A state is the pair (last, pending) of the last decided glyph and the letters that are held back. The stepper
    keeps no state. It serves as long as the font does not change.
    """

    def __init__(self, font):
        self._font = font
        self._begun = beginnings(font)
        self._decided = {}

    def take(self, state, piece):
        """Read known letters. Return the glyphs decided by them, the state after them and the width of the glyphs."""
        last, pending = state
        glyphs = []
        for letter in piece:
            decided, pending = self._decide(pending + letter)
            glyphs.extend(decided)
        width = added_width(self._font, last, glyphs)
        if len(glyphs) > 0:
            last = glyphs[-1]
        return glyphs, (last, pending), width

    def finish(self, state):
        """End the text. Return the glyphs of the letters that are held back, and their width."""
        last, pending = state
        glyphs = glyph_row(self._font, pending)
        return glyphs, added_width(self._font, last, glyphs)

    def _decide(self, row):
        """Return the glyphs at the beginning of a row of letters that are decided, and the letters behind them."""
        # The same few rows come again and again.
        if row not in self._decided:
            glyphs = []
            rest = row
            while rest != "" and rest not in self._begun:
                glyph = first_glyph(self._font, rest, 0)
                glyphs.append(glyph)
                rest = rest[len(glyph):]
            self._decided[row] = (glyphs, rest)
        return self._decided[row]


def beginnings(font):
    """Return a dict whose keys are the rows of letters with which a longer ligature begins."""
    return {ligature[:size]: True for ligature in font.ligatures for size in range(1, len(ligature))}
