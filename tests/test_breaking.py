"""Point 29: breaking lines."""

import random
import unittest

from fontgap.breaking import break_lines, line_widths
from fontgap.errors import InvalidNumber, InvalidText, UnknownLetter
from fontgap.fonts import Font
from tests.slow import random_font, slow_width
from tests.support import ProgramTest


def slow_lines(font, text, measure):
    """Return the lines, each of them tried with one word more."""
    lines = []
    for word in text.split(" ") if text else []:
        if lines and slow_line_width(font, lines[-1] + " " + word) <= measure:
            lines[-1] += " " + word
        else:
            lines.append(word)
    return lines


def slow_line_width(font, line):
    words = line.split(" ")
    return sum(slow_width(font, word) for word in words) + font.blank * (len(words) - 1)


class LinesTest(ProgramTest):
    def setUp(self):
        self.font = Font({"a": 2, "b": 3}, blank=1)

    def check(self, text, measure, lines):
        self.assertEqual(break_lines(self.font, text, measure), lines)
        self.assertEqual(line_widths(self.font, text, measure), [slow_line_width(self.font, line) for line in lines])

    def test_example(self):
        self.check("a b ab", 6, ["a b", "ab"])
        self.assertEqual(line_widths(self.font, "a b ab", 6), [6, 5])

    def test_the_empty_text(self):
        for measure in (0, 5):
            self.check("", measure, [])

    def test_exactly_as_wide_and_one_more(self):
        self.check("a b", 6, ["a b"])
        self.check("a b", 5, ["a", "b"])
        self.check("a a a", 8, ["a a a"])
        self.check("a a a", 7, ["a a", "a"])
        self.check("a a a a", 5, ["a a", "a a"])

    def test_words_wider_than_the_measure(self):
        self.check("bbb a a", 5, ["bbb", "a a"])
        self.check("a bbb a", 5, ["a", "bbb", "a"])
        self.check("bb bb", 0, ["bb", "bb"])
        self.check("bbb", 1, ["bbb"])

    def test_the_blank_of_the_font(self):
        self.font.blank = 0
        self.check("a b a", 7, ["a b a"])
        self.font.blank = 500
        self.check("a b a", 506, ["a b", "a"])
        self.check("a b a", 10 ** 30, ["a b a"])

    def test_the_measure_0(self):
        self.check("a b", 0, ["a", "b"])
        self.font.apply([("advance", "a", 0), ("blank", 0)])
        self.check("a aa b aaa aa", 0, ["a aa", "b", "aaa aa"])

    def test_each_word_is_shaped_by_itself(self):
        self.font.apply([("advance", "ab", 1), ("kern", "a", "b", 500), ("kern", "b", "a", 100)])
        self.check("a b", 6, ["a b"])
        self.check("ab ab", 3, ["ab ab"])
        self.check("ba ba", 6, ["ba", "ba"])
        self.assertEqual(line_widths(self.font, "ba ba", 6), [105, 105])

    def test_wrong_measures(self):
        for measure in (-1, True, False, None, "6", [6]):
            for text in ("a b", " a", "x", ""):
                self.assert_refused(InvalidNumber(measure), break_lines, self.font, text, measure)
                self.assert_refused(InvalidNumber(measure), line_widths, self.font, text, measure)

    def test_blanks_in_wrong_places(self):
        for text, index in ((" ", 0), ("  ", 0), (" a", 0), ("a ", 1), ("a  b", 2), ("a b  a ", 4), ("a b ", 3),
                            ("a   b", 2), ("x ", 1), ("xx  y", 3), ("\n ", 1), (" x", 0), ("a\n b ", 4)):
            self.assert_refused(InvalidText(index), break_lines, self.font, text, 6)
            self.assert_refused(InvalidText(index), line_widths, self.font, text, 6)

    def test_unknown_letters(self):
        for text, letter, index in (("x", "x", 0), ("a x b", "x", 2), ("ab ba bx y", "x", 7), ("a\nb", "\n", 1),
                                    ("a \n b", "\n", 2), ("a b\n", "\n", 3), ("A", "A", 0), ("a b~", "~", 3)):
            self.assert_refused(UnknownLetter(letter, index), break_lines, self.font, text, 6)
            self.assert_refused(UnknownLetter(letter, index), line_widths, self.font, text, 6)

    def test_a_ligature_is_no_letter(self):
        font = Font({"a": 2, "b": 3, "ab": 4}, blank=1)
        self.assertEqual(break_lines(font, "ab ab", 9), ["ab ab"])
        self.assert_refused(UnknownLetter("c", 2), break_lines, font, "abc", 9)

    def test_new_lists(self):
        break_lines(self.font, "a b", 6).clear()
        line_widths(self.font, "a b", 6).clear()
        self.check("a b", 6, ["a b"])

    def test_random_texts(self):
        chance = random.Random(29)
        for _ in range(200):
            self.font = random_font(chance, "abc", chance.randrange(4))
            words = ["".join(chance.choice("abc") for _ in range(chance.randrange(1, 5))) for _ in range(12)]
            text = " ".join(words)
            for measure in (0, 100, 200, 400, chance.randrange(1000)):
                self.check(text, measure, slow_lines(self.font, text, measure))

    def test_a_long_text(self):
        lines = break_lines(self.font, " ".join(["ab"] * 20000), 10 ** 9)
        self.assertEqual([len(line) for line in lines], [59999])
        self.assertEqual(len(break_lines(self.font, " ".join(["ab"] * 20000), 11)), 10000)


if __name__ == "__main__":
    unittest.main()
