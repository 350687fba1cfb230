"""What a font tells of itself, and the general rules: points 2, 6, 7 and the interface."""

import unittest

from fontgap import fonts
from fontgap.errors import UnknownGlyph
from fontgap.fonts import Font
from tests.support import ProgramTest

NOT_GLYPHS = ["", "x", "ab", "A", "abcdefgh", " ", None, True, False, 0, 1, b"a", ("a",), ["a"], {}, {"a": 1}]


def sample():
    advances = {"b": 1, "z": 2, "ba": 3, "a": 4, "zb": 5, "bab": 6, "aa": 7, "abz": 8}
    kerns = {("z", "a"): 9, ("ba", "z"): 8, ("b", "z"): -1, ("b", "aa"): 7, ("a", "z"): -2, ("b", "b"): 5}
    return Font(advances, kerns)


class ReadingTest(ProgramTest):
    def test_glyphs_in_font_order(self):
        self.assertEqual(sample().glyphs(), ["a", "b", "z", "aa", "ba", "zb", "abz", "bab"])

    def test_letters_and_ligatures_in_font_order(self):
        self.assertEqual(sample().letters, ["a", "b", "z"])
        self.assertEqual(sample().ligatures, ["aa", "ba", "zb", "abz", "bab"])

    def test_kerns_in_ascending_order(self):
        self.assertEqual(sample().kerns(), [("a", "z", -2), ("b", "aa", 7), ("b", "b", 5), ("b", "z", -1),
                                            ("ba", "z", 8), ("z", "a", 9)])

    def test_advances(self):
        font = sample()
        for glyph, advance in [("a", 4), ("z", 2), ("bab", 6)]:
            self.assertEqual(font.advance_of(glyph), advance)
            self.assertEqual(font[glyph], advance)

    def test_advances_of_unknown_glyphs(self):
        font = sample()
        for glyph in NOT_GLYPHS:
            self.assert_refused(UnknownGlyph(glyph), font.advance_of, glyph)
            self.assert_refused(UnknownGlyph(glyph), font.__getitem__, glyph)

    def test_kerns_of_pairs(self):
        font = sample()
        for left, right, kern in [("b", "z", -1), ("z", "b", 0), ("b", "b", 5), ("a", "a", 0), ("ba", "z", 8)]:
            self.assertEqual(font.kern_of(left, right), kern)

    def test_kerns_of_unknown_glyphs_the_left_one_first(self):
        font = sample()
        for glyph in NOT_GLYPHS:
            self.assert_refused(UnknownGlyph(glyph), font.kern_of, glyph, "a")
            self.assert_refused(UnknownGlyph(glyph), font.kern_of, "a", glyph)
            self.assert_refused(UnknownGlyph(glyph), font.kern_of, glyph, "y")

    def test_containment(self):
        font = sample()
        for glyph in font.glyphs():
            self.assertIs(glyph in font, True)
        for glyph in NOT_GLYPHS:
            self.assertIs(glyph in font, False)
            self.assertIs(glyph not in font, True)

    def test_length(self):
        self.assertEqual(len(sample()), 8)
        self.assertEqual(len(Font({})), 0)

    def test_an_empty_font(self):
        font = Font({})
        self.assertEqual((font.glyphs(), font.kerns(), font.letters, font.ligatures), ([], [], [], []))
        self.assertEqual((font.blank, font.changes), (250, 0))

    def test_a_font_is_not_iterated_over(self):
        self.assertRaises(TypeError, iter, sample())
        self.assertRaises(TypeError, list, sample())

    def test_class_values_and_the_constant(self):
        self.assertEqual((Font.MOST_ADVANCE, Font.MOST_LETTERS, Font.MOST_LIGATURES, Font.MOST_UNDO),
                         (1000000, 6, 40, 50))
        self.assertEqual(fonts.BLANK, 250)

    def test_properties(self):
        for name in ("letters", "ligatures", "blank", "changes"):
            self.assertIsInstance(vars(Font)[name], property)
        self.assertIsNotNone(vars(Font)["blank"].fset)

    def test_methods_stand_in_the_class_itself(self):
        for name in ("even", "glyphs", "kerns", "advance_of", "__getitem__", "kern_of", "__contains__", "__len__",
                     "__eq__", "set_advance", "__setitem__", "set_advances", "set_kern", "drop", "set_blank",
                     "apply", "undo", "copy"):
            self.assertIn(name, vars(Font))


class NewListsTest(ProgramTest):
    def test_each_list_is_new(self):
        font = sample()
        for read in (font.glyphs, font.kerns, lambda: font.letters, lambda: font.ligatures):
            first, expected = read(), list(read())
            self.assertIs(type(first), list)
            self.assertIsNot(first, read())
            first.clear()
            first.append("q")
            self.assertEqual(read(), expected)

    def test_kerns_are_tuples(self):
        for row in sample().kerns():
            self.assertIs(type(row), tuple)

    def test_passed_dicts_stay_as_they_were_and_are_not_kept(self):
        advances, kerns = {"fi": 4, "i": 2, "f": 3}, {("f", "i"): -1, ("f", "f"): 0}
        font = Font(advances, kerns)
        self.assertEqual(list(advances.items()), [("fi", 4), ("i", 2), ("f", 3)])
        self.assertEqual(list(kerns.items()), [(("f", "i"), -1), (("f", "f"), 0)])
        advances["z"] = 9
        advances["f"] = 8
        kerns[("i", "i")] = 7
        del kerns[("f", "i")]
        self.assertEqual(font, Font({"f": 3, "i": 2, "fi": 4}, {("f", "i"): -1}))
        font.set_advance("f", 50)
        font.set_kern("f", "i", 6)
        font.drop("fi")
        self.assertEqual(advances, {"fi": 4, "i": 2, "f": 8, "z": 9})
        self.assertEqual(kerns, {("f", "f"): 0, ("i", "i"): 7})

    def test_passed_deeds_stay_as_they_were_and_are_not_kept(self):
        font = sample()
        deeds = [("blank", 3), ("advance", "q", 4), ("kern", "q", "q", 2), ("drop", "q")]
        expected = list(deeds)
        font.apply(deeds)
        self.assertEqual(deeds, expected)
        deeds.clear()
        font.undo()
        self.assertEqual(font, sample())

    def test_the_order_of_keys_has_no_meaning(self):
        advances = [("a", 1), ("b", 2), ("ab", 3), ("aba", 4)]
        kerns = [(("a", "b"), -1), (("b", "a"), 2), (("aba", "ab"), 3)]
        one, two = Font(dict(advances), dict(kerns)), Font(dict(advances[::-1]), dict(kerns[::-1]))
        self.assertEqual(one, two)
        self.assertEqual(one.glyphs(), two.glyphs())
        self.assertEqual(one.kerns(), two.kerns())


if __name__ == "__main__":
    unittest.main()
