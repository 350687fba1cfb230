"""Surveys: the widths of glyphs and kerns, found from measured texts."""

from fontgap.checks import check_between
from fontgap.elimination import Equations
from fontgap.errors import Contradiction, UnknownGlyph
from fontgap.ratios import Ratio
from fontgap.shaping import shape

MOST_WIDTH = 1000000000

# The column of what is asked for, beside those of the unknowns and, behind them, of the recorded measurements.
ASKED = -1


class Survey:
    """Finds the advances and kerns of a font from the widths of texts."""

    def __init__(self, font):
        self._font = font.copy()
        glyphs = [("advance", glyph) for glyph in font.glyphs()]
        self._unknowns = glyphs + [("kern", left, right) for left, right, _ in font.kerns()]
        self._columns = {name: column for column, name in enumerate(self._unknowns)}
        self._measured = []
        self._equations = Equations(len(self._unknowns))

    @property
    def unknowns(self):
        """The list of the names of the unknown values."""
        return list(self._unknowns)

    @property
    def recorded(self):
        """The list of the recorded pairs (text, width)."""
        return list(self._measured)

    @property
    def missing(self):
        """How many more measurements the unknown values need at the least."""
        return len(self._unknowns) - len(self._equations)

    def record(self, text, width):
        """Take the measured width of a text. Return False if it follows from the measurements before."""
        counts = self._counts(text)
        check_between(width, -MOST_WIDTH, MOST_WIDTH)
        row = self._asked(counts)
        is_new = self._equations.unsolved_column(row) is not None
        if is_new:
            row[len(self._unknowns) + len(self._measured)] = row.pop(ASKED)
            self._equations.put(row)
        elif self._value(row).compare(width) != 0:
            raise Contradiction(self._shares(row))
        self._measured.append((text, width))
        return is_new

    def told(self, text):
        """Return the width of a text, or None if the measurements do not tell it."""
        return self._told(self._counts(text))

    def explain(self, text):
        """Return the shares of the recorded texts that make up a text, or None if they do not tell its width."""
        row = self._asked(self._counts(text))
        return self._shares(row) if self._equations.unsolved_column(row) is None else None

    def doubt(self, text):
        """Return changes of the unknown values that change a text's width but none recorded, None if there are none."""
        column = self._equations.unsolved_column(self._asked(self._counts(text)))
        if column is None:
            return None
        changes = self._equations.direction(column)
        return {name: changes.get(place, 0) for name, place in self._columns.items()}

    def advance_of(self, glyph):
        """Return the advance of a glyph, or None if the measurements do not tell it."""
        self._check_known(glyph)
        return self._told({self._columns[("advance", glyph)]: 1})

    def kern_of(self, left, right):
        """Return the kern of a pair, or None if the measurements do not tell it."""
        self._check_known(left)
        self._check_known(right)
        name = ("kern", left, right)
        return self._told({self._columns[name]: 1} if name in self._columns else {})

    def _check_known(self, glyph):
        if glyph not in self._font:
            raise UnknownGlyph(glyph)

    def _counts(self, text):
        """Return how often each unknown value is added to make the width of a text, by column."""
        glyphs = shape(self._font, text)
        names = [("advance", glyph) for glyph in glyphs]
        names.extend([("kern", left, right) for left, right in zip(glyphs, glyphs[1:])])
        counts = {}
        for name in names:
            if name in self._columns:
                column = self._columns[name]
                counts[column] = counts.get(column, 0) + 1
        return counts

    def _asked(self, counts):
        """Return a multiple of the counts plus multiples of recorded ones that is as far 0 as can be."""
        return self._equations.reduced({**counts, ASKED: 1})

    def _told(self, counts):
        """Return the value that the measurements give to what has these counts, or None."""
        row = self._asked(counts)
        return self._value(row) if self._equations.unsolved_column(row) is None else None

    def _value(self, row):
        """Return what a row in which all unknowns are 0 tells of the value that is asked for."""
        begun = len(self._unknowns)
        parts = [share * self._measured[place - begun][1] for place, share in row.items() if place != ASKED]
        return Ratio(-sum(parts), row[ASKED])

    def _shares(self, row):
        """Return a ratio for each recorded measurement, as a row in which all unknowns are 0 tells them."""
        begun = len(self._unknowns)
        return [Ratio(-row.get(begun + number, 0), row[ASKED]) for number in range(len(self._measured))]
