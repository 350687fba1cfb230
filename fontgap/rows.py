"""Rows of letters, and the rows of glyphs that draw them."""

from fontgap.errors import UnknownLetter
from fontgap.fonts import Font


def check_letters(known, text):
    """Raise UnknownLetter for the first character of a text that is not in a font or a list of letters."""
    for index, letter in enumerate(text):
        if letter not in known:
            raise UnknownLetter(letter, index)


def first_glyph(font, text, start):
    """Return the longest glyph of the font with which the text goes on at an index. Its letters are known."""
    size = min(Font.MOST_LETTERS, len(text) - start)
    while text[start:start + size] not in font:
        size -= 1
    return text[start:start + size]


def glyph_row(font, text):
    """Return the list of glyphs that draw a text of known letters."""
    glyphs = []
    start = 0
    while start < len(text):
        glyph = first_glyph(font, text, start)
        glyphs.append(glyph)
        start += len(glyph)
    return glyphs


def added_width(font, last, glyphs):
    """Return by how much glyphs widen a text whose last glyph is the given one, or "" if it has none."""
    total = 0
    left = last
    for glyph in glyphs:
        total += font.advance_of(glyph)
        if left != "":
            total += font.kern_of(left, glyph)
        left = glyph
    return total
