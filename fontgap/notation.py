"""Written fonts: a font as text and as a table."""

from fontgap.checks import is_digits
from fontgap.errors import DeedRefused, InvalidLine
from fontgap.fonts import Font, font_place

# Longer numbers are out of range anyway, and Python refuses to read numbers of any length.
MOST_DIGITS = 7


def write_font(font):
    """Return a font as text."""
    lines = [f"blank {font.blank}\n"]
    lines.extend([f"advance {glyph} {font.advance_of(glyph)}\n" for glyph in font.glyphs()])
    lines.extend([f"kern {left} {right} {kern}\n" for left, right, kern in font.kerns()])
    lines.append("end\n")
    return "".join(lines)


def read_font(text):
    """Return a new font whose written form is the text."""
    font = Font({})
    pieces = text.split("\n")
    end = do_lines(font, pieces)
    check_rest(pieces, end)
    # The copy has no changes.
    return font.copy()


def width_table(font):
    """Return a list with one string for each glyph: the glyph and its advance in columns."""
    return [f"{glyph:<6} {font.advance_of(glyph):>9,}" for glyph in font.glyphs()]


def do_lines(font, pieces):
    """Do on a font what the pieces ahead of the piece "end" tell, and return the index of that piece."""
    last = None
    for index, piece in enumerate(pieces):
        if index > 0 and piece == "end":
            return index
        deed = line_deed(piece)
        try:
            font.apply([deed])
        except DeedRefused as error:
            raise InvalidLine(index + 1) from error
        if not may_follow(last, deed):
            raise InvalidLine(index + 1)
        last = deed
    raise InvalidLine(len(pieces) + 1)


def check_rest(pieces, end):
    """Raise InvalidLine unless exactly one piece follows the piece "end", an empty one."""
    if len(pieces) == end + 1 or pieces[end + 1] != "":
        raise InvalidLine(end + 2)
    if len(pieces) > end + 2:
        raise InvalidLine(end + 3)


def line_deed(line):
    """Return the deed that a line tells; a font refuses it if the line has another form."""
    *names, number = line.split(" ")
    return (*names, read_number(number))


def read_number(word):
    """Return the number of a word, or None if the word is not the written form of a number."""
    digits = word.removeprefix("-")
    if not is_digits(digits) or len(digits) > MOST_DIGITS:
        return None
    number = int(word)
    # Each number has one written form only, so this refuses all others: "05", "-0".
    return number if str(number) == word else None


def may_follow(last, deed):
    """Tell whether the line of a deed may stand behind the line of the last deed, which is None for the first line."""
    if last is None:
        return deed[0] == "blank"
    if deed[0] == "kern" and deed[3] == 0:
        return False
    return line_place(deed) > line_place(last)


def line_place(deed):
    """Return what sorts the lines of a written font."""
    if deed[0] == "kern":
        return (2, (deed[1], deed[2]))
    if deed[0] == "advance":
        return (1, font_place(deed[1]))
    return (0,)
