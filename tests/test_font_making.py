"""Making, copying and comparing fonts: point 13."""

import itertools
import unittest

from fontgap.errors import InvalidGlyph, InvalidNumber, Overlap, TooMany, UnknownGlyph
from fontgap.fonts import BLANK, Font
from tests.support import ProgramTest, state


class ConstructorTest(ProgramTest):
    def test_advances_kerns_and_blank(self):
        font = Font({"fi": 450, "f": 300, "i": 200}, {("f", "f"): -20}, blank=9)
        self.assertEqual(state(font), ({"f": 300, "i": 200, "fi": 450}, [("f", "f", -20)], 9))

    def test_the_default_blank(self):
        self.assertEqual(Font({"a": 5}).blank, BLANK)
        self.assertEqual(Font.even("a", 5).blank, BLANK)

    def test_no_kerns(self):
        expected = Font({"a": 5})
        self.assertEqual(expected.kerns(), [])
        self.assertEqual(Font({"a": 5}, None), expected)
        self.assertEqual(Font({"a": 5}, {}), expected)
        self.assertEqual(Font({"a": 5}, kerns=None), expected)

    def test_the_blank_is_passed_by_keyword(self):
        self.assertRaises(TypeError, Font, {"a": 5}, {}, 3)
        self.assertRaises(TypeError, Font.even, "a", 5, 3)

    def test_a_new_font_has_no_changes(self):
        for font in (Font({}), Font({"a": 5, "b": 6}, {("a", "b"): -1}, blank=3), Font.even("abc", 5, blank=3)):
            self.assertEqual(font.changes, 0)

    def test_blanks(self):
        for blank in (0, 1, 1000000):
            self.assertEqual(Font({}, blank=blank).blank, blank)
            self.assertEqual(Font.even("", 1, blank=blank).blank, blank)
        for blank in (-1, 1000001, True, False, None, "3", [3], 2.0):
            self.assert_refused(InvalidNumber(blank), Font, {}, blank=blank)
            self.assert_refused(InvalidNumber(blank), Font.even, "", 1, blank=blank)

    def test_the_blank_is_set_first(self):
        self.assert_refused(InvalidNumber(-1), Font, {"A": 5, 7: None}, {("x", "y"): True}, blank=-1)
        self.assert_refused(InvalidNumber(-1), Font.even, "A", True, blank=-1)

    def test_advances_come_before_kerns(self):
        self.assert_refused(InvalidNumber(-1), Font, {"a": 5, "b": -1}, {("a", "y"): True})
        self.assert_refused(UnknownGlyph("x"), Font, {"a": 5, "ax": 1}, {("y", "a"): 1})

    def test_advances_are_set_in_font_order(self):
        rows = [("b", -1), ("aa", -2), ("c", -3), ("zzzzzzz", 4)]
        for order in itertools.permutations(rows):
            self.assert_refused(InvalidNumber(-1), Font, dict(order))
        for order in itertools.permutations([("ab", -1), ("b", True), ("B", 3), ("aaaaaaa", 4)]):
            self.assert_refused(InvalidGlyph("B"), Font, dict(order))
        for order in itertools.permutations([("abc", 5), ("a", 2), ("xa", 3), ("ay", 4)]):
            self.assert_refused(UnknownGlyph("y"), Font, dict(order))

    def test_wrong_advances(self):
        for advance in (-1, 1000001, True, False, None, "3", [3], 2.0):
            self.assert_refused(InvalidNumber(advance), Font, {"a": 1, "b": advance})
        for glyph in ("", "A", "abcdefg", "a b", "a\n", "1"):
            self.assert_refused(InvalidGlyph(glyph), Font, {"a": 1, glyph: 2})

    def test_keys_that_are_no_strings(self):
        for glyph in (7, None, True, b"a", ("a",), ("a", "b"), ()):
            self.assert_refused(InvalidGlyph(glyph), Font, {glyph: 2})
            self.assert_refused(InvalidGlyph(glyph), Font, {"a": 1, glyph: 2, "b": 3})
            self.assert_refused(InvalidGlyph(glyph), Font, {"a": -1, glyph: -2})

    def test_the_order_of_keys_that_are_no_strings_has_no_meaning(self):
        found = []
        for order in itertools.permutations([(3, 1), (None, 1), ((), 1), ("a", 1)]):
            with self.assertRaises(InvalidGlyph) as caught:
                Font(dict(order))
            found.append(caught.exception.glyph)
        self.assertEqual(found, found[:1] * 24)

    def test_too_many_ligatures(self):
        advances = {letter: 1 for letter in "abcdefg"}
        pairs = [left + right for left in "abcdefg" for right in "abcdefg"]
        advances.update({glyph: 2 for glyph in pairs[:40]})
        self.assertEqual(len(Font(advances)), 47)
        advances[pairs[40]] = 3
        self.assert_refused(TooMany(40), Font, advances)
        advances["z"] = -1
        self.assert_refused(InvalidNumber(-1), Font, advances)

    def test_kerns_are_set_in_ascending_order(self):
        rows = [(("b", "a"), -90), (("a", "b"), -80), (("b", "b"), 0), (("x", "a"), 1)]
        for order in itertools.permutations(rows):
            self.assert_refused(Overlap("a", "b"), Font, {"a": 5, "b": 6}, dict(order))
        for order in itertools.permutations([(("a", "y"), 5), (("a", "bb"), True), (("b", "x"), 5)]):
            self.assert_refused(InvalidNumber(True), Font, {"a": 5, "b": 6, "bb": 7}, dict(order))
            self.assert_refused(UnknownGlyph("bb"), Font, {"a": 5, "b": 6}, dict(order))

    def test_wrong_kerns(self):
        advances = {"a": 5, "b": 6}
        for kern in (1000001, -1000001, True, False, None, "3", [3], 2.0):
            self.assert_refused(InvalidNumber(kern), Font, advances, {("a", "b"): kern})
        self.assert_refused(Overlap("a", "b"), Font, advances, {("a", "b"): -6})
        self.assert_refused(Overlap("b", "a"), Font, advances, {("b", "a"): -6})
        self.assertEqual(Font(advances, {("a", "b"): -5, ("b", "b"): -6}).kern_of("a", "b"), -5)
        for glyph in ("x", "ab", "", "A", None, 3, True):
            self.assert_refused(UnknownGlyph(glyph), Font, advances, {(glyph, "y"): 1})
            self.assert_refused(UnknownGlyph(glyph), Font, advances, {("b", glyph): 1})
            self.assert_refused(UnknownGlyph(glyph), Font, advances, {("b", glyph): 1, ("b", "b"): 1, ("a", "a"): 1})

    def test_a_kern_of_nothing_is_checked_and_dropped(self):
        font = Font({"a": 5, "b": 0}, {("a", "b"): 0, ("b", "b"): 0, ("a", "a"): 2})
        self.assertEqual(font.kerns(), [("a", "a", 2)])
        self.assertEqual(font, Font({"a": 5, "b": 0}, {("a", "a"): 2}))
        self.assert_refused(UnknownGlyph("x"), Font, {"a": 5}, {("a", "x"): 0})
        self.assert_refused(UnknownGlyph("x"), Font, {"a": 5}, {("x", "y"): 0})


class EvenTest(ProgramTest):
    def test_each_letter_has_the_same_advance(self):
        self.assertEqual(Font.even("cab", 7), Font({"a": 7, "b": 7, "c": 7}))
        self.assertEqual(Font.even("cab", 7, blank=3), Font({"a": 7, "b": 7, "c": 7}, blank=3))

    def test_repeated_letters(self):
        self.assertEqual(Font.even("abbaa", 7), Font({"a": 7, "b": 7}))

    def test_no_letters(self):
        self.assertEqual(Font.even("", 7, blank=3), Font({}, blank=3))
        self.assertEqual(Font.even("", -1), Font({}))

    def test_errors_in_font_order(self):
        self.assert_refused(InvalidGlyph("A"), Font.even, "aBcA", 7)
        self.assert_refused(InvalidGlyph(" "), Font.even, "a b", 7)
        self.assert_refused(InvalidGlyph("\n"), Font.even, "a b\n", 7)
        self.assert_refused(InvalidGlyph("1"), Font.even, "a1", -1)
        for advance in (-1, 1000001, True, None, "3"):
            self.assert_refused(InvalidNumber(advance), Font.even, "ab", advance)
        self.assert_refused(InvalidNumber(-1), Font.even, "a{", -1)

    def test_the_whole_alphabet(self):
        letters = "abcdefghijklmnopqrstuvwxyz"
        self.assertEqual(Font.even(letters[::-1], 0).letters, list(letters))


class CopyTest(ProgramTest):
    def original(self):
        font = Font({"f": 300, "i": 200, "fi": 450}, {("f", "f"): -20}, blank=9)
        font.set_kern("fi", "f", 30)
        return font

    def test_a_copy_is_equal_and_has_no_changes(self):
        font = self.original()
        copy = font.copy()
        self.assertIs(type(copy), Font)
        self.assertIsNot(copy, font)
        self.assertEqual(copy, font)
        self.assertEqual(state(copy), state(font))
        self.assertEqual((copy.changes, font.changes), (0, 1))

    def test_a_copy_is_independent(self):
        font = self.original()
        copy, before = font.copy(), state(font)
        copy.set_advance("z", 5)
        copy.set_kern("f", "f", 0)
        copy.drop("fi")
        copy.blank = 4
        self.assertEqual(state(font), before)
        self.assertEqual((copy.changes, font.changes), (4, 1))
        kept = state(copy)
        font.set_advance("q", 5)
        font.undo()
        font.undo()
        self.assertEqual(state(copy), kept)
        self.assertEqual((copy.changes, font.changes), (4, 0))

    def test_full_fonts_are_copied(self):
        font = Font.even("abcdefg", 9)
        for glyph in [left + right for left in "abcdefg" for right in "abcdefg"][:40]:
            font.set_advance(glyph, 0)
        self.assertEqual(font.copy(), font)
        self.assertEqual(Font({}).copy(), Font({}))


class EqualityTest(ProgramTest):
    def test_fonts(self):
        advances, kerns = {"a": 5, "b": 6}, {("a", "b"): -1}
        font = Font(advances, kerns, blank=3)
        self.assertIs(font == Font(advances, kerns, blank=3), True)
        self.assertIs(font != Font(advances, kerns, blank=3), False)
        for other in (Font(advances, kerns, blank=4), Font(advances, {}, blank=3), Font({}, blank=3),
                      Font(advances, {("b", "a"): -1}, blank=3), Font(advances, {("a", "b"): -2}, blank=3),
                      Font({"a": 5, "b": 7}, kerns, blank=3), Font({"a": 5, "b": 6, "c": 7}, kerns, blank=3)):
            self.assertIs(font == other, False)
            self.assertIs(other == font, False)
            self.assertIs(font != other, True)

    def test_changes_do_not_matter(self):
        font, other = Font({"a": 5}), Font({"a": 4})
        other.set_advance("a", 5)
        self.assertEqual(font, other)
        other.undo()
        self.assertNotEqual(font, other)

    def test_other_values(self):
        font = Font({"a": 5})
        for value in (None, True, 0, 1, "a", {"a": 5}, [], ["a"], ("a",), object(), Font):
            self.assertIs(font == value, False)
            self.assertIs(value == font, False)
            self.assertIs(font != value, True)


if __name__ == "__main__":
    unittest.main()
