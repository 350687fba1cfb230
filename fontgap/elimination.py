"""Linear equations in integers, solved as far as they can be."""

from math import gcd, lcm


class Equations:
    """Independent rows of integers, solved for as many columns as there are rows.

    A row is a dict of the integers other than 0 by column. The columns from 0 to a size minus 1 are to be solved for;
    all others are carried along and tell from what a row was made. Each row has a column of its own, in which all
    others are 0.
    """

    def __init__(self, size):
        self._size = size
        # The rows by their own columns.
        self._rows = {}

    def __len__(self):
        return len(self._rows)

    def reduced(self, row):
        """Return a multiple of a row plus multiples of the rows here, with 0 in the columns of their own."""
        found = row
        for column in row:
            if column in self._rows:
                found = cleared(found, self._rows[column], column)
        return found

    def unsolved_column(self, row):
        """Return the first of the columns to be solved for that is not 0 in a row, or None."""
        columns = [column for column in row if 0 <= column < self._size]
        return min(columns) if len(columns) > 0 else None

    def put(self, row):
        """Add a reduced row with an unsolved column, which becomes its own."""
        own = self.unsolved_column(row)
        for column in list(self._rows):
            if own in self._rows[column]:
                self._rows[column] = cleared(self._rows[column], row, own)
        self._rows[own] = row

    def direction(self, column):
        """Return a row that is not 0 in a column that no row has of its own, and which makes 0 with each row here."""
        touched = [own for own in self._rows if column in self._rows[own]]
        scale = 1
        for own in touched:
            scale = lcm(scale, self._rows[own][own])
        found = {own: -self._rows[own][column] * (scale // self._rows[own][own]) for own in touched}
        found[column] = scale
        return found


def cleared(row, other, column):
    """Return a multiple of a row minus a multiple of another one, with 0 in a column in which neither of them is."""
    common = gcd(row[column], other[column])
    times = other[column] // common
    less = row[column] // common
    found = {place: times * value for place, value in row.items()}
    for place, value in other.items():
        found[place] = found.get(place, 0) - less * value
    shared = 0
    for value in found.values():
        shared = gcd(shared, value)
    return {place: value // shared for place, value in found.items() if value != 0}
