"""Point 35: kerns and ligatures without effect."""

import itertools
import random
import unittest

from fontgap.errors import InvalidGlyph, UnknownGlyph
from fontgap.fonts import Font
from fontgap.kerning import idle_kerns, meeting, needless, tidy
from tests.slow import random_font, slow_gap, slow_shape, texts
from tests.support import ProgramTest, state


def slow_meetings(font, most):
    """Return the first of the shortest texts for each pair of glyphs that meet in a text with up to so many letters."""
    found = {}
    for text in texts(font.letters, most):
        glyphs = slow_shape(font, text)
        for pair in zip(glyphs, glyphs[1:]):
            found.setdefault(pair, text)
    return found


class MeetingTest(ProgramTest):
    def test_pairs(self):
        font = Font({"f": 3, "i": 2, "fi": 4})
        self.assertEqual(meeting(font, "f", "f"), "ff")
        self.assertIsNone(meeting(font, "f", "i"))
        self.assertEqual(meeting(font, "f", "fi"), "ffi")
        self.assertEqual(meeting(font, "fi", "fi"), "fifi")
        self.assertEqual(meeting(font, "i", "f"), "if")

    def test_a_longer_ligature_over_both(self):
        font = Font({"a": 1, "b": 1, "ab": 1, "abab": 1, "baba": 1, "abbb": 1})
        self.assertIsNone(meeting(font, "ab", "ab"))
        self.assertEqual(meeting(font, "abab", "ab"), "ababab")
        self.assertEqual(meeting(font, "ab", "b"), "abb")
        self.assertEqual(meeting(font, "ab", "baba"), "abbaba")
        self.assertIsNone(meeting(font, "a", "baba"))
        self.assertIsNone(meeting(font, "b", "abab"))

    def test_errors(self):
        font = Font({"f": 3, "i": 2, "fi": 4})
        self.assert_refused(UnknownGlyph("x"), meeting, font, "x", "y")
        self.assert_refused(UnknownGlyph("y"), meeting, font, "f", "y")
        self.assert_refused(UnknownGlyph("if"), meeting, font, "if", "f")
        for value in ("", "F", " ", None, 0, True):
            self.assert_refused(UnknownGlyph(value), meeting, font, value, "x")
            self.assert_refused(UnknownGlyph(value), meeting, font, "f", value)

    def test_all_short_texts(self):
        chance = random.Random(35)
        met = 0
        for _ in range(60):
            font = random_font(chance, "ab", chance.randrange(7))
            font.apply([("drop", name) for name in font.ligatures if len(name) > 4])
            found = slow_meetings(font, 8)
            for left, right in itertools.product(font.glyphs(), repeat=2):
                self.assertEqual(meeting(font, left, right), found.get((left, right)))
                met += (left, right) in found
        self.assertGreater(met, 500)


class IdleKernsTest(ProgramTest):
    def test_example(self):
        self.assertEqual(idle_kerns(Font({"f": 3, "i": 2, "fi": 4}, {("f", "i"): -1})), [("f", "i")])

    def test_ascending(self):
        kerns = {("f", "i"): -1, ("b", "ba"): 1, ("b", "a"): 1, ("i", "f"): 1, ("f", "fi"): 1, ("a", "ba"): 5}
        font = Font({"f": 3, "i": 2, "fi": 4, "a": 1, "b": 1, "ba": 1, "ab": 1}, kerns)
        self.assertEqual(idle_kerns(font), [("a", "ba"), ("b", "a"), ("f", "i")])

    def test_none(self):
        self.assertEqual(idle_kerns(Font({})), [])
        self.assertEqual(idle_kerns(Font({"a": 1, "aa": 1}, {("aa", "a"): 1})), [])

    def test_a_new_list_and_the_same_font(self):
        font = Font({"f": 3, "i": 2, "fi": 4}, {("f", "i"): -1})
        idle_kerns(font).clear()
        self.assertEqual(idle_kerns(font), [("f", "i")])
        self.assertEqual(font.changes, 0)


class TidyTest(ProgramTest):
    def test_example(self):
        font = Font({"f": 3, "i": 2, "fi": 4}, {("f", "i"): -1, ("f", "f"): 2}, blank=7)
        found = tidy(font)
        self.assertEqual(found, Font({"f": 3, "i": 2, "fi": 4}, {("f", "f"): 2}, blank=7))
        self.assertEqual(found.changes, 0)
        self.assertEqual(state(font), ({"f": 3, "i": 2, "fi": 4}, [("f", "f", 2), ("f", "i", -1)], 7))

    def test_independent_of_the_font(self):
        font = Font({"f": 3, "i": 2}, {("f", "i"): -1})
        font.blank = 5
        found = tidy(font)
        self.assertIsNot(found, font)
        self.assertEqual((found.changes, font.changes), (0, 1))
        found.set_advance("f", 9)
        font.set_advance("i", 8)
        self.assertEqual((found["f"], found["i"], font["f"], font["i"]), (9, 2, 3, 8))

    def test_the_same_widths(self):
        chance = random.Random(36)
        for _ in range(40):
            font = random_font(chance, "ab", chance.randrange(7))
            found = tidy(font)
            self.assertEqual(idle_kerns(found), [])
            gone = set(idle_kerns(font))
            self.assertEqual(found.kerns(), [kern for kern in font.kerns() if kern[:2] not in gone])
            for text in texts("ab", 7):
                self.assertEqual(slow_gap(font, found, text), 0)


class NeedlessTest(ProgramTest):
    def test_example(self):
        self.assertIsNone(needless(Font({"a": 2, "b": 3, "ab": 5}), "ab"))

    def test_texts(self):
        self.assertEqual(needless(Font({"a": 2, "b": 3, "ab": 6}), "ab"), "ab")
        self.assertEqual(needless(Font({"a": 2, "b": 3, "ab": 5}, {("ab", "ab"): 1}), "ab"), "abab")
        self.assertEqual(needless(Font({"a": 2, "b": 3, "ab": 5}, {("a", "a"): 1, ("ab", "ab"): 1}), "ab"), "aab")
        self.assertEqual(needless(Font({"a": 2, "b": 3, "c": 1, "ab": 5}, {("ab", "c"): 1, ("ab", "b"): 1}), "ab"), "abb")
        self.assertIsNone(needless(Font({"a": 2, "b": 3, "ab": 5, "abb": 1}, {("a", "b"): 0, ("ab", "b"): 1}), "ab"))

    def test_the_kerns_of_the_ligature_are_dropped_too(self):
        font = Font({"a": 2, "b": 3, "ab": 4}, {("a", "b"): -1, ("ab", "ab"): 2, ("b", "a"): 2, ("ab", "a"): 2,
                                                ("b", "ab"): 2})
        self.assertIsNone(needless(font, "ab"))
        font.set_kern("ab", "ab", 1)
        self.assertEqual(needless(font, "ab"), "abab")

    def test_a_long_text(self):
        font = Font({"a": 1, "b": 1, "abbaab": 6, "bbabab": 6}, {("bbabab", "abbaab"): 5})
        self.assertEqual(needless(font, "abbaab"), "bbabababbaab")
        self.assertEqual(needless(font, "bbabab"), "bbabababbaab")

    def test_errors(self):
        font = Font({"f": 3, "i": 2, "fi": 4})
        self.assert_refused(InvalidGlyph("f"), needless, font, "f")
        for value in ("x", "if", "", None, 0, True):
            self.assert_refused(UnknownGlyph(value), needless, font, value)

    def test_the_font_is_not_changed(self):
        font = Font({"a": 2, "b": 3, "ab": 6}, {("ab", "a"): 1})
        before = state(font)
        needless(font, "ab")
        self.assertEqual((state(font), font.changes), (before, 0))

    def test_all_short_texts(self):
        chance = random.Random(37)
        ends = [0, 0]
        for _ in range(150):
            font = random_font(chance, "ab", chance.randrange(1, 4), 5)
            ligature = chance.choice(font.ligatures)
            if chance.randrange(3):
                rest = font.copy()
                rest.drop(ligature)
                glyphs = slow_shape(rest, ligature)
                kerns = {(left, right): kern for left, right, kern in font.kerns()}
                between = sum(kerns.get(pair, 0) for pair in zip(glyphs, glyphs[1:]))
                wide = max(0, sum(rest[glyph] for glyph in glyphs) + between)
                font = Font({**{glyph: font[glyph] for glyph in font.glyphs()}, ligature: wide},
                            {pair: kern for pair, kern in kerns.items() if ligature not in pair})
            rest = font.copy()
            rest.drop(ligature)
            expected = next((text for text in texts("ab", 9) if slow_gap(font, rest, text) != 0), None)
            found = needless(font, ligature)
            self.assertTrue(found == expected or (expected is None and len(found) > 9))
            ends[found is None] += 1
        self.assertGreater(min(ends), 10)


if __name__ == "__main__":
    unittest.main()
