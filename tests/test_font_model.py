"""Long rows of calls on a font, compared with a slow model that keeps whole states."""

import random
import unittest

from fontgap import errors
from fontgap.errors import DeedRefused, NothingToUndo
from fontgap.fonts import Font
from tests.support import ProgramTest, state

GLYPHS = ["a", "b", "c", "ab", "ba", "abc", "cc", "aabbcc", "cab", "B", "", "abcabca"]
NUMBERS = [0, 1, 2, 3, 5, 8, 13, 1000000, 1000001, -1, True, None]
KERNS = [0, 1, -1, -2, -3, -5, 1000000, -1000001, False]


def font_order(glyphs):
    return sorted(glyphs, key=lambda glyph: (len(glyph), glyph))


def is_number(value, low, high):
    return type(value) is int and low <= value <= high


def model_advance(before, glyph, advance):
    advances, kerns, blank = before
    if glyph == "" or len(glyph) > 6 or glyph.strip("abc") != "":
        raise errors.InvalidGlyph(glyph)
    if not is_number(advance, 0, 1000000):
        raise errors.InvalidNumber(advance)
    for letter in glyph if len(glyph) > 1 else "":
        if letter not in advances:
            raise errors.UnknownGlyph(letter)
    for left, right in sorted(kerns):
        if glyph in (left, right) and advance + kerns[(left, right)] < 0:
            raise errors.Overlap(left, right)
    return {**advances, glyph: advance}, kerns, blank


def model_kern(before, left, right, kern):
    advances, kerns, blank = before
    for glyph in (left, right):
        if glyph not in advances:
            raise errors.UnknownGlyph(glyph)
    if not is_number(kern, -1000000, 1000000):
        raise errors.InvalidNumber(kern)
    if min(advances[left], advances[right]) + kern < 0:
        raise errors.Overlap(left, right)
    others = {pair: kerns[pair] for pair in kerns if pair != (left, right)}
    return advances, {**others, (left, right): kern} if kern else others, blank


def model_drop(before, glyph):
    advances, kerns, blank = before
    if glyph not in advances:
        raise errors.UnknownGlyph(glyph)
    for ligature in font_order(advances):
        if len(glyph) == 1 and len(ligature) > 1 and glyph in ligature:
            raise errors.InUse(ligature)
    return ({name: advances[name] for name in advances if name != glyph},
            {pair: kerns[pair] for pair in kerns if glyph not in pair}, blank)


def model_blank(before, advance):
    if not is_number(advance, 0, 1000000):
        raise errors.InvalidNumber(advance)
    return before[0], before[1], advance


MODEL = {"advance": model_advance, "kern": model_kern, "drop": model_drop, "blank": model_blank}


def random_deed(chance):
    word = chance.choice(["advance", "advance", "kern", "kern", "drop", "blank"])
    if word == "advance":
        return word, chance.choice(GLYPHS), chance.choice(NUMBERS)
    if word == "kern":
        return word, chance.choice(GLYPHS), chance.choice(GLYPHS), chance.choice(KERNS)
    if word == "drop":
        return word, chance.choice(GLYPHS)
    return word, chance.choice(NUMBERS)


def run(call, *args, **named):
    """Return what a call raises, or None."""
    try:
        call(*args, **named)
    except errors.FontError as error:
        return error
    return None


class ModelTest(ProgramTest):
    def setUp(self):
        self.font = Font({}, blank=0)
        self.state = ({}, {}, 0)
        self.past = []

    def assert_as_the_model(self):
        advances, kerns, blank = self.state
        rows = [(left, right, kern) for (left, right), kern in sorted(kerns.items())]
        self.assertEqual(state(self.font), (advances, rows, blank))
        self.assertEqual(self.font.glyphs(), font_order(advances))
        self.assertEqual(self.font.changes, len(self.past))

    def assert_same_outcome(self, found, expected):
        if expected is None:
            self.assertIsNone(found)
        else:
            self.assert_same_error(found, expected)

    def model_steps(self, deeds):
        """Run deeds on the model; return the index of the refused one and its error, or None and None."""
        now = self.state
        for index, deed in enumerate(deeds):
            try:
                now = MODEL[deed[0]](now, *deed[1:])
            except errors.FontError as error:
                return index, error
        if deeds:
            self.past = (self.past + [self.state])[-50:]
            self.state = now
        return None, None

    def one_deed(self, chance):
        deed = random_deed(chance)
        _, error = self.model_steps([deed])
        calls = {"advance": chance.choice([self.font.set_advance, self.font.__setitem__]), "kern": self.font.set_kern,
                 "drop": self.font.drop, "blank": self.font.set_blank}
        self.assert_same_outcome(run(calls[deed[0]], *deed[1:]), error)

    def several_deeds(self, chance):
        deeds = [random_deed(chance) for _ in range(chance.randrange(5))]
        index, error = self.model_steps(deeds)
        found = run(self.font.apply, deeds)
        self.assert_same_outcome(found, None if index is None else DeedRefused(index))
        if found is not None:
            self.assert_same_error(found.__cause__, error)

    def several_advances(self, chance):
        advances = {chance.choice(GLYPHS[:9]): chance.choice(NUMBERS[:9]) for _ in range(chance.randrange(4))}
        _, error = self.model_steps([("advance", glyph, advances[glyph]) for glyph in font_order(advances)])
        self.assert_same_outcome(run(self.font.set_advances, **advances), error)

    def take_back(self, _chance):
        expected = None if self.past else NothingToUndo()
        if self.past:
            self.state = self.past.pop()
        self.assert_same_outcome(run(self.font.undo), expected)

    def remake(self, _chance):
        advances, kerns, blank = self.state
        self.assertEqual(Font(advances, kerns, blank=blank), self.font)
        self.assertEqual(self.font.copy(), self.font)

    def test_long_rows_of_calls(self):
        for seed in range(20):
            chance = random.Random(seed)
            self.setUp()
            for _ in range(400):
                step = chance.choice([self.one_deed, self.one_deed, self.one_deed, self.several_deeds,
                                      self.several_deeds, self.several_advances, self.take_back, self.remake])
                step(chance)
                self.assert_as_the_model()


if __name__ == "__main__":
    unittest.main()
