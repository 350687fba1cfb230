"""Points 21 and 22: readers."""

import random
import unittest

from fontgap.errors import UnknownLetter
from fontgap.fonts import Font
from fontgap.reader import Reader
from fontgap.shaping import shape, width
from tests.slow import SlowReader, random_font, slow_shape, slow_width, texts
from tests.support import ProgramTest


def sample():
    return Font({"f": 300, "i": 200, "l": 190, "fi": 450, "ffi": 700},
                {("f", "f"): -20, ("f", "l"): 5, ("fi", "l"): -30, ("f", "ffi"): 11})


def look(reader):
    return (reader.last, reader.pending, reader.total)


class FeedTest(ProgramTest):
    def test_a_new_reader_is_at_the_start(self):
        self.assertEqual(look(Reader(sample())), ("", "", 0))

    def test_letters_are_held_back_while_they_begin_a_longer_ligature(self):
        reader = Reader(sample())
        self.assertEqual(reader.feed("f"), [])
        self.assertEqual(look(reader), ("", "f", 0))
        self.assertEqual(reader.feed("f"), [])
        self.assertEqual(look(reader), ("", "ff", 0))
        self.assertEqual(reader.feed("f"), ["f"])
        self.assertEqual(look(reader), ("f", "ff", 300))
        self.assertEqual(reader.feed("i"), ["ffi"])
        self.assertEqual(look(reader), ("ffi", "", 1011))

    def test_letters_that_begin_no_ligature_are_decided_at_once(self):
        reader = Reader(sample())
        self.assertEqual(reader.feed("il"), ["i", "l"])
        self.assertEqual(look(reader), ("l", "", 390))

    def test_one_letter_can_decide_several_glyphs(self):
        reader = Reader(sample())
        self.assertEqual(reader.feed("ff"), [])
        self.assertEqual(reader.feed("l"), ["f", "f", "l"])
        self.assertEqual(look(reader), ("l", "", 300 - 20 + 300 + 5 + 190))

    def test_a_glyph_that_begins_a_longer_one_is_held_back(self):
        font = Font({"a": 1, "b": 1, "c": 1, "d": 1, "ab": 5, "abcd": 9})
        reader = Reader(font)
        self.assertEqual([reader.feed("a"), reader.feed("b"), reader.feed("c")], [[], [], []])
        self.assertEqual(reader.feed("a"), ["ab", "c"])
        self.assertEqual(look(reader), ("c", "a", 6))

    def test_letters_behind_a_decided_glyph_are_held_back_again(self):
        font = Font({"a": 1, "b": 1, "c": 1, "ab": 5, "abbc": 9, "bcc": 7})
        reader = Reader(font)
        self.assertEqual(reader.feed("abb"), [])
        self.assertEqual(reader.feed("b"), ["ab", "b"])
        self.assertEqual(reader.pending, "b")

    def test_ligatures_of_six_letters(self):
        reader = Reader(Font({"a": 1, "b": 2, "aaaaaa": 9}))
        self.assertEqual(reader.feed("aaaaa"), [])
        self.assertEqual(look(reader), ("", "aaaaa", 0))
        self.assertEqual(reader.feed("a"), ["aaaaaa"])
        self.assertEqual(reader.feed("aaab"), ["a", "a", "a", "b"])
        self.assertEqual(look(reader), ("b", "", 14))

    def test_empty_pieces(self):
        reader = Reader(sample())
        self.assertEqual(reader.feed(""), [])
        reader.feed("if")
        before = look(reader)
        self.assertEqual(reader.feed(""), [])
        self.assertEqual(look(reader), before)

    def test_an_unknown_letter_has_its_index_in_the_piece_and_nothing_is_read(self):
        reader = Reader(sample())
        reader.feed("lff")
        before = look(reader)
        for piece, letter, index in (("x", "x", 0), ("ilx", "x", 2), ("i l", " ", 1), ("ffi\n", "\n", 3)):
            self.assert_refused(UnknownLetter(letter, index), reader.feed, piece)
            self.assertEqual(look(reader), before)
        self.assertEqual(reader.feed("i"), ["ffi"])
        self.assertEqual(reader.finish(), ([], 890))

    def test_font_without_glyphs(self):
        reader = Reader(Font({}))
        self.assertEqual(reader.feed(""), [])
        self.assert_refused(UnknownLetter("a", 0), reader.feed, "a")
        self.assertEqual(reader.finish(), ([], 0))

    def test_the_font_is_copied(self):
        font = sample()
        reader = Reader(font)
        font.apply([("advance", "i", 1), ("advance", "x", 1), ("drop", "ffi"), ("advance", "il", 9)])
        self.assertEqual(reader.feed("iffi"), ["i", "ffi"])
        self.assertEqual(reader.total, 900)
        self.assert_refused(UnknownLetter("x", 0), reader.feed, "x")

    def test_the_font_is_not_changed(self):
        font = sample()
        Reader(font).feed("ffi")
        self.assertEqual(font, sample())
        self.assertEqual(font.changes, 0)

    def test_the_lists_are_new(self):
        reader = Reader(sample())
        reader.feed("ffi").append("x")
        self.assertEqual(reader.feed("ffi"), ["ffi"])
        self.assertEqual(reader.feed("fl"), ["f", "l"])


class FinishTest(ProgramTest):
    def test_the_letters_held_back_are_shaped(self):
        font = Font({"a": 10, "b": 20, "c": 1, "ab": 7, "abab": 1, "aabac": 1}, {("a", "ab"): 3, ("ab", "a"): 100})
        reader = Reader(font)
        self.assertEqual(reader.feed("aaba"), [])
        self.assertEqual(reader.finish(), (["a", "ab", "a"], 10 + 3 + 7 + 100 + 10))

    def test_the_kern_behind_the_last_decided_glyph_counts(self):
        reader = Reader(sample())
        self.assertEqual(reader.feed("fff"), ["f"])
        self.assertEqual(reader.finish(), (["f", "f"], 860))

    def test_the_reader_is_at_the_start_again(self):
        reader = Reader(sample())
        reader.feed("lff")
        glyphs, total = reader.finish()
        self.assertEqual((glyphs, total), (["f", "f"], 770))
        self.assertEqual(look(reader), ("", "", 0))
        self.assertEqual(reader.feed("fil"), ["fi", "l"])
        self.assertEqual(reader.total, 610)

    def test_a_second_finish(self):
        reader = Reader(sample())
        reader.feed("if")
        reader.finish()
        self.assertEqual(reader.finish(), ([], 0))
        self.assertEqual(look(reader), ("", "", 0))

    def test_a_finish_of_nothing(self):
        self.assertEqual(Reader(sample()).finish(), ([], 0))

    def test_it_returns_a_pair(self):
        self.assertIsInstance(Reader(sample()).finish(), tuple)


class ModelTest(ProgramTest):
    def test_glyphs_are_decided_as_soon_as_every_continuation_agrees(self):
        chance = random.Random(22)
        for _ in range(12):
            font = random_font(chance, "ab", chance.randrange(7))
            slow = SlowReader(font)
            for text in texts("ab", 7)[-128:]:
                reader = Reader(font)
                glyphs = []
                for index, letter in enumerate(text):
                    glyphs += reader.feed(letter)
                    self.assertEqual(glyphs, slow.decided(text[:index + 1]))
                    self.assertEqual((reader.last, reader.pending), slow.state(text[:index + 1]))
                    self.assertEqual(reader.total, slow.total(text[:index + 1]))

    def test_every_way_to_cut_a_text_gives_its_shape_and_width(self):
        chance = random.Random(23)
        for _ in range(40):
            font = random_font(chance, "abcd", chance.randrange(20))
            reader = Reader(font)
            for _ in range(20):
                text = "".join(chance.choice("abcd") for _ in range(chance.randrange(40)))
                cuts = sorted(chance.randrange(len(text) + 1) for _ in range(chance.randrange(9)))
                pieces = [text[start:end] for start, end in zip([0] + cuts, cuts + [len(text)])]
                glyphs = []
                for piece in pieces:
                    glyphs += reader.feed(piece)
                rest, total = reader.finish()
                self.assertEqual(glyphs + rest, slow_shape(font, text))
                self.assertEqual(glyphs + rest, shape(font, text))
                self.assertEqual(total, slow_width(font, text))
                self.assertEqual(total, width(font, text))


if __name__ == "__main__":
    unittest.main()
