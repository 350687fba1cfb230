"""Points 17 to 19: shaping, widths and places."""

import random
import string
import types
import unittest

from fontgap.errors import UnknownLetter
from fontgap.fonts import Font
from fontgap.shaping import placed, shape, width, widths
from tests.slow import random_font, slow_shape, slow_width, texts
from tests.support import ProgramTest, state


def sample():
    return Font({"f": 300, "i": 200, "l": 190, "fi": 450, "ffi": 700},
                {("f", "f"): -20, ("f", "l"): 5, ("f", "fi"): 7, ("fi", "l"): -30, ("f", "i"): 99})


class ShapeTest(ProgramTest):
    def test_the_longest_glyph_is_taken(self):
        font = sample()
        self.assertEqual(shape(font, "ffi"), ["ffi"])
        self.assertEqual(shape(font, "fffi"), ["f", "ffi"])
        self.assertEqual(shape(font, "fil"), ["fi", "l"])
        self.assertEqual(shape(font, "ffl"), ["f", "f", "l"])

    def test_from_left_to_right_without_looking_back(self):
        font = Font({"a": 1, "b": 1, "c": 1, "d": 1, "ab": 1, "bcd": 1, "abcdd": 1})
        self.assertEqual(shape(font, "abcd"), ["ab", "c", "d"])
        self.assertEqual(shape(font, "bcdab"), ["bcd", "ab"])
        self.assertEqual(shape(font, "abcddabcda"), ["abcdd", "ab", "c", "d", "a"])

    def test_ligatures_of_six_letters(self):
        font = Font({"a": 1, "b": 1, "aaaaaa": 9, "ab": 2})
        self.assertEqual(shape(font, "a" * 13), ["aaaaaa", "aaaaaa", "a"])
        self.assertEqual(shape(font, "a" * 11), ["aaaaaa"] + ["a"] * 5)
        self.assertEqual(shape(font, "aaaaab"), ["a", "a", "a", "a", "ab"])

    def test_forty_ligatures(self):
        names = [left + right for left in "abcd" for right in "efghijklmn"]
        letters = {letter: 10 for letter in string.ascii_lowercase}
        font = Font({**letters, **{name: 15 for name in names}})
        self.assertEqual(shape(font, "".join(names)), names)
        self.assertEqual(shape(font, "ea" + names[0] + "z"), ["e", "a", "ae", "z"])

    def test_empty_texts(self):
        self.assertEqual(shape(sample(), ""), [])
        self.assertEqual(shape(Font({}), ""), [])

    def test_unknown_letters(self):
        font = sample()
        for text, letter, index in (("x", "x", 0), ("fix", "x", 2), ("ff y", " ", 2), ("fi\n", "\n", 2), ("fFx", "F", 1),
                                    ("f" * 50 + "~i", "~", 50)):
            self.assert_refused(UnknownLetter(letter, index), shape, font, text)
        self.assert_refused(UnknownLetter("a", 0), shape, Font({}), "ab")

    def test_the_list_is_new_and_the_font_stays(self):
        font = sample()
        shape(font, "fi").append("x")
        self.assertEqual(shape(font, "fi"), ["fi"])
        self.assertEqual(state(font), state(sample()))
        self.assertEqual(font.changes, 0)


class WidthTest(ProgramTest):
    def test_advances_and_kerns(self):
        font = sample()
        self.assertEqual(width(font, "f"), 300)
        self.assertEqual(width(font, "ff"), 300 - 20 + 300)
        self.assertEqual(width(font, "lf"), 490)
        self.assertEqual(width(font, "fl"), 495)
        self.assertEqual(width(font, "ffil"), 890)
        self.assertEqual(width(font, "fffil"), 300 + 700 + 190)
        self.assertEqual(width(font, "lfifi"), 190 + 450 + 450)

    def test_the_kern_inside_a_ligature_is_not_added(self):
        self.assertEqual(width(sample(), "fi"), 450)

    def test_empty_texts(self):
        self.assertEqual(width(sample(), ""), 0)
        self.assertEqual(width(sample(), "", tracking=5), 0)
        self.assertEqual(width(Font({}), ""), 0)

    def test_tracking_between_neighbouring_glyphs(self):
        font = sample()
        self.assertEqual(width(font, "f", tracking=1000), 300)
        self.assertEqual(width(font, "ll", tracking=7), 387)
        self.assertEqual(width(font, "lll", tracking=7), 584)
        self.assertEqual(width(font, "lfil", tracking=7), 190 + 450 - 30 + 190 + 14)
        self.assertEqual(width(font, "ll", tracking=0), 380)

    def test_negative_tracking(self):
        self.assertEqual(width(sample(), "lll", tracking=-200), 170)
        self.assertEqual(width(sample(), "lll", tracking=-1000000), 570 - 2000000)

    def test_tracking_is_passed_by_keyword(self):
        with self.assertRaises(TypeError):
            width(sample(), "ll", 7)

    def test_the_blank_is_no_letter(self):
        self.assert_refused(UnknownLetter(" ", 1), width, sample(), "f f", tracking=3)

    def test_numbers_at_their_limits(self):
        font = Font({"a": 1000000, "b": 0}, {("a", "a"): 1000000, ("a", "b"): 1000000})
        self.assertEqual(width(font, "a" * 1000), 1000000 * 1999)
        self.assertEqual(width(font, "ab"), 2000000)
        self.assertEqual(width(font, "bb"), 0)

    def test_random_fonts(self):
        chance = random.Random(18)
        for _ in range(60):
            letters = "abcd"[:chance.randrange(1, 5)]
            font = random_font(chance, letters, chance.randrange(8))
            for _ in range(20):
                text = "".join(chance.choice(letters) for _ in range(chance.randrange(30)))
                tracking = chance.randrange(-9, 10)
                self.assertEqual(shape(font, text), slow_shape(font, text))
                self.assertEqual(width(font, text, tracking=tracking), slow_width(font, text, tracking))


class WidthsTest(ProgramTest):
    def test_any_number_of_texts(self):
        font = sample()
        self.assertEqual(widths(font), [])
        self.assertEqual(widths(font, tracking=4), [])
        self.assertEqual(widths(font, "ff"), [580])
        self.assertEqual(widths(font, "ff", "", "fi", "ff"), [580, 0, 450, 580])

    def test_tracking(self):
        self.assertEqual(widths(sample(), "ll", "l", "lll", tracking=-3), [377, 190, 564])

    def test_the_error_of_the_first_text_with_one(self):
        self.assert_refused(UnknownLetter("y", 1), widths, sample(), "ff", "fy", "x")

    def test_the_list_is_new(self):
        font = sample()
        widths(font, "f").append(1)
        self.assertEqual(widths(font, "f"), [300])


class PlacedTest(ProgramTest):
    def test_indexes_glyphs_and_edges(self):
        self.assertEqual(list(placed(sample(), "lffffil")),
                         [(0, "l", 0), (1, "f", 190), (2, "f", 470), (3, "ffi", 770), (6, "l", 1470)])

    def test_empty_texts(self):
        self.assertEqual(list(placed(sample(), "")), [])
        self.assertEqual(list(placed(Font({}), "")), [])

    def test_it_is_a_generator(self):
        places = placed(sample(), "fi")
        self.assertIsInstance(places, types.GeneratorType)
        self.assertEqual(next(places), (0, "fi", 0))
        with self.assertRaises(StopIteration):
            next(places)

    def test_an_unknown_letter_is_raised_ahead_of_everything_when_it_is_iterated_over(self):
        places = placed(sample(), "fffx")
        self.assert_refused(UnknownLetter("x", 3), next, places)

    def test_edges_can_lie_ahead_of_the_last_glyph(self):
        font = Font({"a": 5, "b": 0}, {("a", "a"): -5})
        self.assertEqual(list(placed(font, "aab")), [(0, "a", 0), (1, "a", 0), (2, "b", 5)])

    def test_a_change_of_the_font_in_between_does_not_mix_two_fonts(self):
        font = sample()
        found = []
        for place in placed(font, "lfil"):
            found.append(place)
            if place == (0, "l", 0):
                font.apply([("advance", "l", 1000), ("drop", "ffi"), ("drop", "fi")])
        self.assertEqual(found, list(placed(sample(), "lfil")))

    def test_random_fonts(self):
        chance = random.Random(19)
        for _ in range(30):
            font = random_font(chance, "abc", chance.randrange(8))
            for text in texts("abc", 4) + ["abcabcaabbcc", "cbacbacba"]:
                places = list(placed(font, text))
                self.assertEqual([glyph for index, glyph, x in places], slow_shape(font, text))
                for index, glyph, x in places:
                    upto = text[:index + len(glyph)]
                    row = [part for at, part, edge in places if at <= index]
                    self.assertEqual("".join(row), upto)
                    inside = sum(font[part] for part in row[:-1])
                    kerns = sum(font.kern_of(left, right) for left, right in zip(row, row[1:]))
                    self.assertEqual(x, inside + kerns)


if __name__ == "__main__":
    unittest.main()
