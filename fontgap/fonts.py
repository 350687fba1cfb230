"""Fonts: the advances of glyphs, the kerns of pairs and the blank."""

from fontgap.checks import check_between
from fontgap.errors import DeedRefused, FontError, InUse, InvalidGlyph, NothingToUndo, Overlap, TooMany, UnknownGlyph

BLANK = 250

# How many values a deed has, its word included.
DEED_SIZES = {"advance": 3, "kern": 4, "drop": 2, "blank": 2}


class Font:
    """A font.

    Each step of a change first makes all its checks and returns records of what it replaced: tuples
    (word, key, old value), with None for no value. They serve to take the step back.
    """

    MOST_ADVANCE = 1000000
    MOST_LETTERS = 6
    MOST_LIGATURES = 40
    MOST_UNDO = 50

    def __init__(self, advances, kerns=None, *, blank=BLANK):
        self._advances = {}
        self._kerns = {}
        self._blank = BLANK
        self._past = []
        self._put_blank(blank)
        for glyph in sorted(list(advances), key=font_place):
            self._put_advance(glyph, advances[glyph])
        pairs = {} if kerns is None else kerns
        for left, right in sorted(list(pairs), key=pair_place):
            self._put_kern(left, right, pairs[(left, right)])

    @classmethod
    def even(cls, letters, advance, *, blank=BLANK):
        """Make a font in which each of the letters has the same advance."""
        advances = {letter: advance for letter in letters}
        return cls(advances, blank=blank)

    def copy(self):
        """Return an independent font with the same numbers and no changes."""
        return Font(self._advances, self._kerns, blank=self._blank)

    def __eq__(self, other):
        return (isinstance(other, Font) and self._advances == other._advances
                and self._kerns == other._kerns and self._blank == other._blank)

    def __contains__(self, x):
        return isinstance(x, str) and x in self._advances

    def __len__(self):
        return len(self._advances)

    def __getitem__(self, at):
        return self.advance_of(at)

    def __setitem__(self, at, worth):
        self.set_advance(at, worth)

    def __iter__(self):
        raise TypeError("a font is not iterated over")

    def glyphs(self):
        """Return the list of the glyphs in font order."""
        return sorted(list(self._advances), key=font_place)

    def kerns(self):
        """Return the list of the tuples (left, right, kern) in ascending order."""
        return [(left, right, self._kerns[(left, right)]) for left, right in sorted(list(self._kerns))]

    def advance_of(self, glyph):
        """Return the advance of a glyph."""
        self._check_known(glyph)
        return self._advances[glyph]

    def kern_of(self, left, right):
        """Return the kern of a pair of glyphs, 0 if it is not kerned."""
        self._check_known(left)
        self._check_known(right)
        return self._kerns.get((left, right), 0)

    @property
    def letters(self):
        """The list of the letters in font order."""
        return [glyph for glyph in self.glyphs() if len(glyph) == 1]

    @property
    def ligatures(self):
        """The list of the ligatures in font order."""
        return [glyph for glyph in self.glyphs() if len(glyph) > 1]

    @property
    def blank(self):
        """The advance of the blank."""
        return self._blank

    @blank.setter
    def blank(self, value):
        self.set_blank(value)

    @property
    def changes(self):
        """The number of changes that can be taken back."""
        return len(self._past)

    def set_advance(self, glyph, advance):
        """Add a glyph or change its advance."""
        self._remember(self._put_advance(glyph, advance))

    def set_advances(this_font, **advances):
        """Set several advances at once, in font order: all of them or none."""
        # A glyph may be called self, so the font itself has a name here that no glyph can have.
        this_font._set_all(advances)

    def set_kern(self, left, right, kern):
        """Set the kern of a pair of glyphs; 0 removes it."""
        self._remember(self._put_kern(left, right, kern))

    def drop(self, glyph):
        """Remove a glyph and the kerns of its pairs."""
        self._remember(self._take_out(glyph))

    def set_blank(self, advance):
        """Set the advance of the blank."""
        self._remember(self._put_blank(advance))

    def apply(self, deeds):
        """Do a list of deeds in order: all of them or none."""
        records = []
        for index, deed in enumerate(deeds):
            if not is_deed(deed):
                self._take_back(records)
                raise DeedRefused(index)
            try:
                records.extend(self._do(deed))
            except FontError as error:
                self._take_back(records)
                raise DeedRefused(index) from error
        if len(deeds) > 0:
            self._remember(records)

    def undo(self):
        """Take back the last change that was not yet taken back."""
        if len(self._past) == 0:
            raise NothingToUndo()
        self._take_back(self._past.pop())

    def _set_all(self, advances):
        """Set the advances of a dict as one change, in font order: all of them or none."""
        records = []
        for glyph in sorted(list(advances), key=font_place):
            try:
                records.extend(self._put_advance(glyph, advances[glyph]))
            except FontError:
                self._take_back(records)
                raise
        if len(advances) > 0:
            self._remember(records)

    def _do(self, deed):
        """Do one well-formed deed and return its records."""
        word = deed[0]
        if word == "advance":
            return self._put_advance(deed[1], deed[2])
        if word == "kern":
            return self._put_kern(deed[1], deed[2], deed[3])
        if word == "drop":
            return self._take_out(deed[1])
        return self._put_blank(deed[1])

    def _put_advance(self, glyph, advance):
        """Check and set an advance and return the records."""
        if not is_glyph_name(glyph):
            raise InvalidGlyph(glyph)
        check_between(advance, 0, self.MOST_ADVANCE)
        self._check_letters(glyph)
        self._check_room(glyph)
        self._check_kerns(glyph, advance)
        return [self._write_advance(glyph, advance)]

    def _put_kern(self, left, right, kern):
        """Check and set a kern and return the records."""
        self._check_known(left)
        self._check_known(right)
        check_between(kern, -self.MOST_ADVANCE, self.MOST_ADVANCE)
        if self._advances[left] + kern < 0 or self._advances[right] + kern < 0:
            raise Overlap(left, right)
        return [self._write_kern((left, right), None if kern == 0 else kern)]

    def _take_out(self, glyph):
        """Check and remove a glyph with its kerns and return the records."""
        self._check_known(glyph)
        self._check_unused(glyph)
        records = []
        for pair in list(self._kerns):
            if glyph in pair:
                records.append(self._write_kern(pair, None))
        records.append(self._write_advance(glyph, None))
        return records

    def _put_blank(self, advance):
        """Check and set the advance of the blank and return the records."""
        check_between(advance, 0, self.MOST_ADVANCE)
        record = ("blank", "", self._blank)
        self._blank = advance
        return [record]

    def _check_known(self, glyph):
        if glyph not in self:
            raise UnknownGlyph(glyph)

    def _check_letters(self, glyph):
        """Refuse a ligature with a letter that the font does not have."""
        if len(glyph) > 1:
            for letter in glyph:
                self._check_known(letter)

    def _check_room(self, glyph):
        """Refuse a new ligature beyond the greatest number of ligatures."""
        if len(glyph) > 1 and glyph not in self and len(self.ligatures) >= self.MOST_LIGATURES:
            raise TooMany(self.MOST_LIGATURES)

    def _check_kerns(self, glyph, advance):
        """Refuse an advance that is too small for a kern of the glyph."""
        narrow = [pair for pair in self._kerns if glyph in pair and advance + self._kerns[pair] < 0]
        if len(narrow) > 0:
            left, right = min(narrow)
            raise Overlap(left, right)

    def _check_unused(self, glyph):
        """Refuse a glyph that is a letter of a ligature."""
        if len(glyph) == 1:
            for ligature in self.ligatures:
                if glyph in ligature:
                    raise InUse(ligature)

    def _write_advance(self, glyph, advance):
        """Give a glyph an advance, or none, and return the record of its last one."""
        return ("advance", glyph, write(self._advances, glyph, advance))

    def _write_kern(self, pair, kern):
        """Give a pair a kern, or none, and return the record of its last one."""
        return ("kern", pair, write(self._kerns, pair, kern))

    def _take_back(self, records):
        """Undo what the records tell, the last one first."""
        for word, key, old in records[::-1]:
            if word == "advance":
                write(self._advances, key, old)
            elif word == "kern":
                write(self._kerns, key, old)
            else:
                self._blank = old

    def _remember(self, records):
        """Keep the records of a change and forget the oldest ones beyond the limit."""
        self._past.append(records)
        if len(self._past) > self.MOST_UNDO:
            del self._past[0]


def font_place(glyph):
    """Return what sorts glyphs in font order; keys that are not strings come ahead of all strings."""
    length = len(glyph) if isinstance(glyph, str) else -1
    return (length, str(glyph))


def pair_place(pair):
    """Return what sorts pairs of glyphs in ascending order, also beside members that are not strings."""
    left, right = pair
    return (isinstance(left, str), str(left), isinstance(right, str), str(right))


def is_glyph_name(value):
    """Tell whether a value is the name of a glyph: 1 to 6 characters from a to z."""
    if not isinstance(value, str) or len(value) > Font.MOST_LETTERS:
        return False
    return value.isascii() and value.isalpha() and value.islower()


def is_deed(value):
    """Tell whether a value is a tuple with the word of a deed and as many values as that word takes."""
    if not isinstance(value, tuple) or len(value) == 0 or not isinstance(value[0], str):
        return False
    return DEED_SIZES.get(value[0]) == len(value)


def write(table, key, value):
    """Give a key a value, or none, and return the value that it had, or None."""
    old = table.get(key)
    if value is None:
        table.pop(key, None)
    else:
        table[key] = value
    return old
