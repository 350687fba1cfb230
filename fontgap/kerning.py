"""Kerns and ligatures without effect."""

from fontgap.claims import SameWidths
from fontgap.errors import InvalidGlyph, UnknownGlyph
from fontgap.rows import glyph_row


def meeting(font, left, right):
    """Return the shortest text in which one glyph is directly followed by another, or None if there is none."""
    for glyph in (left, right):
        if glyph not in font:
            raise UnknownGlyph(glyph)
    # What stands before and behind the two changes nothing: a glyph depends on the letters from its first one on, and
    # more letters only allow longer glyphs.
    text = left + right
    return text if glyph_row(font, text) == [left, right] else None


def idle_kerns(font):
    """Return the ascending list of the kerned pairs that meet in no text."""
    return [(left, right) for left, right, _ in font.kerns() if meeting(font, left, right) is None]


def tidy(font):
    """Return a new font without the kerns that have no effect."""
    found = font.copy()
    for left, right in idle_kerns(font):
        found.set_kern(left, right, 0)
    # The copy of a font has no changes.
    return found.copy()


def needless(font, ligature):
    """Return the first of the shortest texts whose width changes if a ligature is dropped, or None if there is none."""
    if ligature not in font:
        raise UnknownGlyph(ligature)
    if len(ligature) == 1:
        raise InvalidGlyph(ligature)
    rest = font.copy()
    rest.drop(ligature)
    certificate = SameWidths(font, rest).decide()
    return certificate[1] if certificate[0] == "fails" else None
