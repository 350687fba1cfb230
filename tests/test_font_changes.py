"""The single changes of a font: points 6 to 10."""

import unittest

from fontgap.errors import InUse, InvalidGlyph, InvalidNumber, Overlap, TooMany, UnknownGlyph
from fontgap.fonts import Font
from tests.support import ProgramTest, state

LIMIT = 1000000
NOT_INTEGERS = [True, False, None, "5", "", [5], (5,), {}, 5.0]
NOT_STRINGS = [None, True, False, 1, 0, b"a", ("a",), ["a"], {"a": 1}, []]
BAD_NAMES = ["", "abcdefg", "aaaaaaa", "a" * 100, "A", "aB", "Ab", "a b", " ", " a", "a ", "a\n", "\n", "a1", "1", "-",
             "a-b", "a_b", "_", "`", "{", "~", "@", "[", "\u00e4", "a\u00e4", "\u0430"]


def example():
    return Font({"f": 300, "i": 200, "fi": 450}, {("f", "f"): -20})


def pairs_of(many):
    """Return as many ligatures of the letters a to g."""
    return [left + right for left in "abcdefg" for right in "abcdefg"][:many]


class FontTest(ProgramTest):
    def assert_unchanged(self, font, error, call, *args, **named):
        """Check that the font refuses a call and is as it was."""
        before, changes = state(font), font.changes
        self.assert_refused(error, call, *args, **named)
        self.assertEqual(state(font), before)
        self.assertEqual(font.changes, changes)


class AdvanceTest(FontTest):
    def test_adds_and_changes(self):
        font = Font({"a": 5})
        self.assertIsNone(font.set_advance("b", 7))
        self.assertIsNone(font.set_advance("a", 6))
        self.assertIsNone(font.set_advance("ab", 9))
        self.assertEqual(state(font), ({"a": 6, "b": 7, "ab": 9}, [], 250))

    def test_names_of_one_to_six_characters(self):
        font = Font({"a": 5, "z": 6})
        for glyph in ("a", "z", "az", "aaa", "zaza", "azazz", "zzzzzz", "zazaza"):
            font.set_advance(glyph, 3)
            self.assertEqual(font.advance_of(glyph), 3)

    def test_invalid_names(self):
        font = Font({"a": 5, "b": 6})
        for glyph in BAD_NAMES + NOT_STRINGS:
            self.assert_unchanged(font, InvalidGlyph(glyph), font.set_advance, glyph, 3)
            self.assert_unchanged(font, InvalidGlyph(glyph), font.__setitem__, glyph, 3)

    def test_advances_at_and_beyond_the_limits(self):
        font = Font({"a": 5})
        for advance in (0, 1, LIMIT - 1, LIMIT):
            font.set_advance("a", advance)
            self.assertEqual(font["a"], advance)
        for advance in [-1, LIMIT + 1, -LIMIT, 10 ** 5000, -(10 ** 5000)] + NOT_INTEGERS:
            self.assert_unchanged(font, InvalidNumber(advance), font.set_advance, "a", advance)
            self.assert_unchanged(font, InvalidNumber(advance), font.set_advance, "b", advance)
            self.assert_unchanged(font, InvalidNumber(advance), font.__setitem__, "a", advance)

    def test_letters_of_a_ligature(self):
        font = Font({"a": 5, "b": 6})
        self.assert_unchanged(font, UnknownGlyph("c"), font.set_advance, "acdb", 3)
        self.assert_unchanged(font, UnknownGlyph("d"), font.set_advance, "dcab", 3)
        self.assert_unchanged(font, UnknownGlyph("z"), font.set_advance, "abz", 3)
        self.assertNotIn("abz", font)
        font.set_advance("z", 1)
        font.set_advance("abz", 3)
        self.assertEqual(font["abz"], 3)

    def test_most_ligatures(self):
        font = Font.even("abcdefg", 9)
        for glyph in pairs_of(40):
            font.set_advance(glyph, 10)
        self.assertEqual(len(font.ligatures), 40)
        self.assert_unchanged(font, TooMany(40), font.set_advance, "gg", 10)
        self.assert_unchanged(font, TooMany(40), font.__setitem__, "abcdef", 10)
        font.set_advance("aa", 11)
        self.assertEqual(font["aa"], 11)
        font.set_advance("z", 4)
        self.assertEqual(font["z"], 4)
        font.drop("aa")
        font.set_advance("gg", 10)
        self.assertEqual(font["gg"], 10)
        self.assert_unchanged(font, TooMany(40), font.set_advance, "aa", 10)

    def test_overlap_at_the_least_advance(self):
        font = Font({"a": 50, "b": 60, "c": 70}, {("a", "b"): -40, ("c", "a"): -30})
        font.set_advance("a", 40)
        self.assert_unchanged(font, Overlap("a", "b"), font.set_advance, "a", 39)
        font.set_advance("b", 40)
        self.assert_unchanged(font, Overlap("a", "b"), font.set_advance, "b", 39)
        font.set_advance("c", 30)
        self.assert_unchanged(font, Overlap("c", "a"), font.set_advance, "c", 29)
        self.assert_unchanged(font, Overlap("c", "a"), font.__setitem__, "c", 29)

    def test_overlap_with_the_same_glyph_twice_and_with_ligatures(self):
        font = Font({"a": 50, "b": 60, "ab": 70}, {("a", "a"): -20, ("ab", "b"): -60})
        font.set_advance("a", 20)
        self.assert_unchanged(font, Overlap("a", "a"), font.set_advance, "a", 19)
        font.set_advance("ab", 60)
        self.assert_unchanged(font, Overlap("ab", "b"), font.set_advance, "ab", 59)
        self.assert_unchanged(font, Overlap("ab", "b"), font.set_advance, "b", 59)

    def test_the_first_of_several_pairs_in_ascending_order(self):
        kerns = {("z", "b"): -10, ("b", "z"): -20, ("b", "b"): -30, ("a", "b"): -5, ("bb", "b"): -40, ("b", "a"): -9}
        font = Font({"a": 90, "b": 90, "z": 90, "bb": 90}, kerns)
        for advance, pair in [(39, ("bb", "b")), (29, ("b", "b")), (9, ("b", "b")), (8, ("b", "a")), (4, ("a", "b"))]:
            self.assert_unchanged(font, Overlap(*pair), font.set_advance, "b", advance)

    def test_pairs_of_other_glyphs_do_not_matter(self):
        font = Font({"a": 50, "b": 60, "c": 70}, {("a", "b"): -50})
        font.set_advance("c", 0)
        self.assertEqual(font["c"], 0)

    def test_positive_kerns_never_overlap(self):
        font = Font({"a": 50, "b": 60}, {("a", "b"): LIMIT})
        font.set_advance("a", 0)
        self.assertEqual(font["a"], 0)

    def test_order_of_the_errors(self):
        font = Font.even("abcdefg", 9)
        for glyph in pairs_of(40):
            font.set_advance(glyph, 10)
        self.assert_unchanged(font, InvalidGlyph("A"), font.set_advance, "A", -1)
        self.assert_unchanged(font, InvalidGlyph("Ax"), font.set_advance, "Ax", True)
        self.assert_unchanged(font, InvalidNumber(-1), font.set_advance, "ax", -1)
        self.assert_unchanged(font, UnknownGlyph("x"), font.set_advance, "ax", 1)
        self.assert_unchanged(font, InvalidNumber(None), font.set_advance, "gg", None)
        self.assert_unchanged(font, TooMany(40), font.set_advance, "gg", 1)
        font.set_kern("a", "b", -5)
        self.assert_unchanged(font, InvalidNumber(-1), font.set_advance, "a", -1)

    def test_setting_an_item_does_the_same(self):
        font = Font({"a": 5}, {("a", "a"): -5})
        font["b"] = 7
        font["ab"] = 8
        font["a"] = 6
        self.assertEqual(state(font), ({"a": 6, "b": 7, "ab": 8}, [("a", "a", -5)], 250))
        self.assertEqual(font.changes, 3)
        self.assert_unchanged(font, Overlap("a", "a"), font.__setitem__, "a", 4)
        self.assert_unchanged(font, UnknownGlyph("c"), font.__setitem__, "ca", 4)


class KernTest(FontTest):
    def test_set_change_and_remove(self):
        font = example()
        self.assertIsNone(font.set_kern("f", "fi", 30))
        self.assertIsNone(font.set_kern("f", "f", -25))
        self.assertEqual(font.kerns(), [("f", "f", -25), ("f", "fi", 30)])
        self.assertIsNone(font.set_kern("f", "f", 0))
        self.assertEqual(font.kerns(), [("f", "fi", 30)])
        font.set_kern("i", "i", 0)
        self.assertEqual(font.kerns(), [("f", "fi", 30)])

    def test_the_turned_pair_is_another_pair(self):
        font = example()
        font.set_kern("f", "i", -10)
        self.assertEqual((font.kern_of("f", "i"), font.kern_of("i", "f")), (-10, 0))
        font.set_kern("i", "f", 7)
        self.assertEqual((font.kern_of("f", "i"), font.kern_of("i", "f")), (-10, 7))
        font.set_kern("f", "i", 0)
        self.assertEqual((font.kern_of("f", "i"), font.kern_of("i", "f")), (0, 7))

    def test_unknown_glyphs_the_left_one_first(self):
        font = example()
        for value in ["x", "ff", "", "F"] + NOT_STRINGS:
            self.assert_unchanged(font, UnknownGlyph(value), font.set_kern, value, "f", 1)
            self.assert_unchanged(font, UnknownGlyph(value), font.set_kern, "f", value, 1)
            self.assert_unchanged(font, UnknownGlyph(value), font.set_kern, value, "y", 1)

    def test_kerns_at_and_beyond_the_limits(self):
        font = Font({"a": LIMIT, "b": LIMIT})
        for kern in (LIMIT, -LIMIT, 1, -1):
            font.set_kern("a", "b", kern)
            self.assertEqual(font.kern_of("a", "b"), kern)
        for kern in [LIMIT + 1, -LIMIT - 1, 10 ** 5000] + NOT_INTEGERS:
            self.assert_unchanged(font, InvalidNumber(kern), font.set_kern, "a", "b", kern)

    def test_overlap_at_the_least_kern(self):
        font = example()
        font.set_kern("f", "i", -200)
        font.set_kern("i", "f", -200)
        self.assert_unchanged(font, Overlap("f", "i"), font.set_kern, "f", "i", -201)
        self.assert_unchanged(font, Overlap("i", "f"), font.set_kern, "i", "f", -201)
        font.set_kern("i", "i", -200)
        self.assert_unchanged(font, Overlap("i", "i"), font.set_kern, "i", "i", -201)
        font.set_kern("f", "fi", -300)
        self.assert_unchanged(font, Overlap("f", "fi"), font.set_kern, "f", "fi", -301)

    def test_order_of_the_errors(self):
        font = example()
        self.assert_unchanged(font, UnknownGlyph("x"), font.set_kern, "x", "y", True)
        self.assert_unchanged(font, UnknownGlyph("y"), font.set_kern, "f", "y", True)
        self.assert_unchanged(font, UnknownGlyph("y"), font.set_kern, "f", "y", 0)
        self.assert_unchanged(font, InvalidNumber(-LIMIT - 1), font.set_kern, "f", "i", -LIMIT - 1)
        self.assert_unchanged(font, Overlap("f", "i"), font.set_kern, "f", "i", -LIMIT)

    def test_a_kern_of_nothing_fits_glyphs_of_no_width(self):
        font = Font({"a": 0})
        font.set_kern("a", "a", 0)
        self.assert_unchanged(font, Overlap("a", "a"), font.set_kern, "a", "a", -1)


class DropTest(FontTest):
    def test_a_glyph_goes_with_its_kerns(self):
        kerns = {("f", "f"): -20, ("f", "i"): 1, ("i", "f"): 2, ("fi", "f"): 3, ("i", "fi"): 4, ("fi", "fi"): 5}
        font = Font({"f": 300, "i": 200, "fi": 450}, kerns)
        self.assertIsNone(font.drop("fi"))
        self.assertEqual(state(font), ({"f": 300, "i": 200}, [("f", "f", -20), ("f", "i", 1), ("i", "f", 2)], 250))
        font.drop("f")
        self.assertEqual(state(font), ({"i": 200}, [], 250))
        font.set_advance("f", 0)
        self.assertEqual(font.kerns(), [])
        self.assertEqual(font.kern_of("f", "f"), 0)

    def test_a_letter_in_use(self):
        font = Font({"a": 1, "b": 2, "c": 3, "ca": 4, "bbb": 5, "ab": 6})
        self.assert_unchanged(font, InUse("ab"), font.drop, "a")
        self.assert_unchanged(font, InUse("ab"), font.drop, "b")
        self.assert_unchanged(font, InUse("ca"), font.drop, "c")
        font.drop("ab")
        self.assert_unchanged(font, InUse("ca"), font.drop, "a")
        self.assert_unchanged(font, InUse("bbb"), font.drop, "b")
        font.drop("bbb")
        font.drop("b")
        self.assertEqual(font.glyphs(), ["a", "c", "ca"])

    def test_the_first_ligature_is_the_shortest(self):
        font = Font({"a": 1, "z": 2, "aaaz": 3, "zz": 4, "za": 5})
        self.assert_unchanged(font, InUse("za"), font.drop, "z")
        self.assert_unchanged(font, InUse("za"), font.drop, "a")

    def test_a_ligature_within_another_one_is_not_in_use(self):
        font = Font({"f": 1, "i": 2, "fi": 3, "ffi": 4})
        font.drop("fi")
        self.assertEqual(font.glyphs(), ["f", "i", "ffi"])

    def test_unknown_glyphs(self):
        font = example()
        for value in ["x", "ff", "", "F"] + NOT_STRINGS:
            self.assert_unchanged(font, UnknownGlyph(value), font.drop, value)


class BlankTest(FontTest):
    def test_set_by_the_method_and_by_assignment(self):
        font = example()
        self.assertEqual(font.blank, 250)
        self.assertIsNone(font.set_blank(0))
        self.assertEqual(font.blank, 0)
        font.blank = LIMIT
        self.assertEqual(font.blank, LIMIT)
        self.assertEqual(font.changes, 2)

    def test_wrong_blanks(self):
        font = example()
        for value in [-1, LIMIT + 1, 10 ** 5000] + NOT_INTEGERS:
            self.assert_unchanged(font, InvalidNumber(value), font.set_blank, value)
            self.assert_unchanged(font, InvalidNumber(value), setattr, font, "blank", value)

    def test_the_blank_is_no_glyph(self):
        font = example()
        font.set_blank(1)
        self.assertNotIn(" ", font)
        self.assertEqual(len(font), 3)


if __name__ == "__main__":
    unittest.main()
