"""Shaping: the glyphs that draw a text, and their width."""

from fontgap.rows import added_width, check_letters, glyph_row
from fontgap.stepper import START, Stepper


def shape(font, text):
    """Return the list of glyphs that draw a text."""
    check_letters(font, text)
    return glyph_row(font, text)


def width(font, text, *, tracking=0):
    """Return the width of a text, with the tracking between each two neighbouring glyphs."""
    glyphs = shape(font, text)
    gaps = max(0, len(glyphs) - 1)
    return added_width(font, "", glyphs) + tracking * gaps


def widths(font, *texts, tracking=0):
    """Return the list of the widths of any number of texts."""
    return [width(font, text, tracking=tracking) for text in texts]


def placed(font, text):
    """Yield (index of the first letter, glyph, left edge) for each glyph of a text."""
    # The row is complete before anything is yielded, so that a change of the font in between does not mix two fonts.
    places = place_row(font, shape(font, text))
    yield from places


def place_row(font, glyphs):
    """Return the list of (index of the first letter, glyph, left edge) of a row of glyphs."""
    places = []
    index = 0
    edge = 0
    last = ""
    for glyph in glyphs:
        if last != "":
            edge += font.kern_of(last, glyph)
        places.append((index, glyph, edge))
        index += len(glyph)
        edge += font.advance_of(glyph)
        last = glyph
    return places


class Gauge:
    """Measures texts, also repeated ones, with a font as it is at each call."""

    def __init__(self, font):
        self._font = font
        self._total = 0

    def __call__(self, text, times=1):
        check_letters(self._font, text)
        found = repeated_width(Stepper(self._font), text, times)
        self._total += found
        return found

    @property
    def total(self):
        """The sum of all widths that the gauge has returned."""
        return self._total


def repeated_width(stepper, text, times):
    """Return the width of a text of known letters that is repeated so many times.

    A state of the reader that comes back comes back again and again, so that the laps between are counted, not read.
    """
    state = START
    total = 0
    done = 0
    earlier = {}
    while done < times and state not in earlier:
        earlier[state] = (done, total)
        state, growth = stepper.take(state, text)[1:]
        total += growth
        done += 1
    if done < times:
        begun, past = earlier[state]
        laps, rest = divmod(times - done, done - begun)
        total += laps * (total - past)
        for _ in range(rest):
            state, growth = stepper.take(state, text)[1:]
            total += growth
    return total + stepper.finish(state)[1]
