"""Points 14 to 16: written fonts."""

import random
import string
import unittest

from fontgap.errors import InvalidLine
from fontgap.fonts import Font
from fontgap.notation import read_font, width_table, write_font
from tests.slow import random_font
from tests.support import ProgramTest, state

FULL = """blank 250
advance f 300
advance i 200
advance l 0
advance ff 600
advance fi 450
advance ffi 1000000
kern f f -20
kern f l 5
kern ffi f -200
kern i fi 1000000
end
"""
FULL_FONT = Font({"ffi": 1000000, "fi": 450, "l": 0, "f": 300, "i": 200, "ff": 600},
                 {("i", "fi"): 1000000, ("f", "l"): 5, ("ffi", "f"): -200, ("f", "f"): -20})


class WriteTest(ProgramTest):
    def test_all_lines_in_order(self):
        self.assertEqual(write_font(FULL_FONT), FULL)

    def test_font_without_glyphs(self):
        self.assertEqual(write_font(Font({})), "blank 250\nend\n")
        self.assertEqual(write_font(Font({}, blank=0)), "blank 0\nend\n")

    def test_shorter_glyphs_come_first_but_pairs_are_in_string_order(self):
        font = Font({"a": 9, "b": 9, "ab": 9}, {("b", "a"): 1, ("ab", "b"): 2, ("a", "b"): 3, ("a", "ab"): 4})
        self.assertEqual(write_font(font), "blank 250\nadvance a 9\nadvance b 9\nadvance ab 9\n"
                                           "kern a ab 4\nkern a b 3\nkern ab b 2\nkern b a 1\nend\n")

    def test_numbers_at_their_limits(self):
        font = Font({"a": 1000000}, {("a", "a"): -1000000}, blank=1000000)
        self.assertEqual(write_font(font), "blank 1000000\nadvance a 1000000\nkern a a -1000000\nend\n")

    def test_writing_changes_nothing(self):
        font = FULL_FONT.copy()
        write_font(font)
        self.assertEqual(state(font), state(FULL_FONT))
        self.assertEqual(font.changes, 0)


class ReadTest(ProgramTest):
    def test_what_is_written_is_read(self):
        font = read_font(FULL)
        self.assertEqual(state(font), state(FULL_FONT))
        self.assertEqual(font, FULL_FONT)

    def test_a_read_font_has_no_changes(self):
        self.assertEqual(read_font(FULL).changes, 0)
        self.assertEqual(read_font("blank 1\nend\n").changes, 0)

    def test_a_read_font_is_new(self):
        font = read_font(FULL)
        font["f"] = 777
        self.assertEqual(read_font(FULL)["f"], 300)

    def test_font_without_glyphs(self):
        self.assertEqual(state(read_font("blank 7\nend\n")), ({}, [], 7))

    def test_blank_is_not_the_default(self):
        self.assertEqual(read_font("blank 0\nend\n").blank, 0)

    def test_numbers_at_their_limits(self):
        text = "blank 1000000\nadvance a 1000000\nadvance b 0\nkern a a -1000000\nkern a b 1000000\nend\n"
        self.assertEqual(write_font(read_font(text)), text)

    def test_forty_ligatures_of_six_letters(self):
        names = ["a" * 5 + letter for letter in string.ascii_lowercase] + ["b" * 5 + letter for letter in "abcdefghijklmn"]
        letters = {letter: 10 for letter in string.ascii_lowercase}
        font = Font({**letters, **{name: 7 for name in names}}, {(names[0], names[39]): -7})
        self.assertEqual(read_font(write_font(font)), font)
        extra = write_font(font).replace("advance bbbbbn 7\n", "advance bbbbbn 7\nadvance bbbbbo 7\n")
        # Ahead of it stand the blank, 26 letters and 40 ligatures.
        self.assert_refused(InvalidLine(68), read_font, extra)

    def test_random_fonts_are_read_as_they_were_written(self):
        chance = random.Random(14)
        for _ in range(100):
            font = random_font(chance, "abcxyz"[:chance.randrange(7)], chance.randrange(12))
            text = write_font(font)
            self.assertEqual(read_font(text), font)
            self.assertEqual(write_font(read_font(text)), text)


class InvalidLineTest(ProgramTest):
    def refuse(self, line, text):
        self.assert_refused(InvalidLine(line), read_font, text)

    def refuse_line(self, line):
        """Check that a line is refused behind four valid ones."""
        self.refuse(5, f"blank 3\nadvance b 5\nadvance d 9\nadvance bd 5\n{line}\nend\n")

    def test_first_piece(self):
        for line in ("", "end", "advance a 5", "kern a a 5", "blank", "blank ", "blank  3", " blank 3", "blank 3 ",
                     "blank 03", "blank 00", "blank -0", "blank +3", "blank -1", "blank 1000001", "blank x", "blank 3 3",
                     "Blank 3", "blank3", "blank 3.0", "blank 1_0", "blank 0x3", "blank --3", "blank -", "drop 3", "3",
                     "blank 99999999999999999999"):
            self.refuse(1, f"{line}\nadvance a 5\nend\n")

    def test_numbers_beyond_what_python_reads_at_once(self):
        self.refuse(1, "blank " + "1" * 5000 + "\nend\n")
        self.refuse(2, "blank 1\nadvance a " + "0" * 5000 + "\nend\n")

    def test_first_of_several_invalid_pieces(self):
        self.refuse(1, "blank 03\nadvance A 5\n")
        self.refuse(2, "blank 3\nadvance A 5\nadvance b 05\nend")
        self.refuse(3, "blank 3\nadvance b 5\nadvance b 05\nend")

    def test_lines_that_are_no_lines(self):
        for line in ("", " ", "end ", " end", "End", "end end", "advance", "advance e", "advance 5", "advance e 5 5",
                     "advance  e 5", "advance e  5", " advance e 5", "advance e 5 ", "advance\te 5", "kern", "kern b b",
                     "kern b 5", "kern b b 5 5", "kern  b b 5", "kern b  b 5", "kern b b  5", " kern b b 5",
                     "kern b b 5 ", "drop b", "drop 5", "blank 3", "blank 4", "Advance e 5", "width e 5", "ab"):
            self.refuse_line(line)

    def test_numbers_of_advances(self):
        for number in ("05", "00", "-0", "+5", "-5", "1000001", "10000000", "5.0", "x", "1_000", "", "0x5", "5,000"):
            self.refuse_line(f"advance bdb {number}")

    def test_numbers_of_kerns(self):
        for number in ("0", "-0", "05", "-05", "+5", "1000001", "-1000001", "5.0", "x", "--5", "- 5", "-", "", "5-"):
            self.refuse_line(f"kern b b {number}")

    def test_glyphs(self):
        for glyph in ("E", "e1", "e-", "bdbdbdb", "b.", ""):
            self.refuse_line(f"advance {glyph} 5")

    def test_ligatures_of_unknown_letters(self):
        for glyph in ("be", "eb", "bdbdbe"):
            self.refuse_line(f"advance {glyph} 5")

    def test_glyphs_out_of_order(self):
        for glyph in ("a", "b", "c", "d", "e", "bb", "bd"):
            self.refuse_line(f"advance {glyph} 5")
        self.assertEqual(read_font("blank 3\nadvance b 5\nadvance d 9\nadvance bd 5\nadvance db 1\nend\n").glyphs(),
                         ["b", "d", "bd", "db"])

    def test_kerns_of_unknown_glyphs(self):
        for pair in ("a b", "b a", "db b", "b db", "B b"):
            self.refuse_line(f"kern {pair} 5")

    def test_kerns_that_are_more_than_an_advance(self):
        for pair in ("b d", "d b", "b b", "bd d", "d bd"):
            self.refuse_line(f"kern {pair} -6")
            text = f"blank 3\nadvance b 5\nadvance d 9\nadvance bd 5\nkern {pair} -5\nend\n"
            self.assertEqual(write_font(read_font(text)), text)

    def test_pairs_out_of_order(self):
        head = "blank 3\nadvance a 5\nadvance b 5\nadvance ab 5\nkern ab a 1\n"
        for pair in ("a a", "a b", "a ab", "ab a"):
            self.refuse(6, f"{head}kern {pair} 2\nend\n")
        for pair in ("ab ab", "ab b", "b a"):
            self.assertEqual(len(read_font(f"{head}kern {pair} 2\nend\n").kerns()), 2)

    def test_advance_behind_kern(self):
        self.refuse(4, "blank 3\nadvance a 5\nkern a a 1\nadvance b 5\nend\n")

    def test_blank_behind_other_lines(self):
        self.refuse(2, "blank 3\nblank 4\nend\n")
        self.refuse(2, "blank 3\nblank 3\nend\n")
        self.refuse(3, "blank 3\nadvance a 5\nblank 3\nend\n")
        self.refuse(4, "blank 3\nadvance a 5\nkern a a 1\nblank 3\nend\n")

    def test_piece_behind_end(self):
        self.refuse(3, "blank 3\nend\n ")
        self.refuse(3, "blank 3\nend\nend\n")
        self.refuse(3, "blank 3\nend\nadvance a 5\n")
        self.refuse(3, "blank 3\nend\nx\ny\n")

    def test_second_piece_behind_end(self):
        self.refuse(4, "blank 3\nend\n\n")
        self.refuse(4, "blank 3\nend\n\nend\n")
        self.refuse(5, "blank 3\nadvance a 5\nend\n\n\n\n")

    def test_missing_pieces(self):
        self.refuse(2, "blank 3")
        self.refuse(3, "blank 3\nend")
        self.refuse(3, "blank 3\nadvance a 5")
        self.refuse(5, "blank 3\nadvance a 5\nkern a a 1\nend")

    def test_empty_pieces_are_invalid_and_not_missing(self):
        self.refuse(1, "")
        self.refuse(1, "\n")
        self.refuse(2, "blank 3\n")
        self.refuse(2, "blank 3\n\nend\n")
        self.refuse(3, "blank 3\nadvance a 5\n")

    def test_every_text_that_is_read_is_the_written_form(self):
        chance = random.Random(15)
        good = FULL.split("\n")
        refused = 0
        for _ in range(3000):
            pieces = list(good)
            index = chance.randrange(len(pieces))
            word = chance.choice([" ", "\n", "0", "-", "1", "f", "end", "kern f f 1", "", "9"])
            place = chance.randrange(len(pieces[index]) + 1)
            cut = chance.randrange(3)
            pieces[index] = pieces[index][:place] + word + pieces[index][place + cut:]
            text = "\n".join(pieces)
            try:
                self.assertEqual(write_font(read_font(text)), text)
            except InvalidLine as error:
                refused += 1
                self.assertNotIn(text, (FULL,))
                self.assertIn(error.line, range(1, len(text.split("\n")) + 2))
        self.assertGreater(refused, 1000)
        self.assertLess(refused, 2999)


class TableTest(ProgramTest):
    def test_examples(self):
        font = Font({"f": 1, "i": 2, "fi": 700, "a": 1000000})
        self.assertEqual(width_table(font), ["a      1,000,000", "f              1", "i              2",
                                             "fi           700"])

    def test_groups_of_digits(self):
        numbers = {"a": 0, "b": 999, "c": 1000, "d": 12345, "e": 123456, "abcdee": 999999}
        self.assertEqual(width_table(Font(numbers)), ["a              0", "b            999", "c          1,000",
                                                      "d         12,345", "e        123,456", "abcdee   999,999"])

    def test_font_without_glyphs(self):
        self.assertEqual(width_table(Font({})), [])

    def test_the_list_is_new(self):
        font = Font({"a": 5})
        width_table(font).append("x")
        self.assertEqual(width_table(font), ["a              5"])


if __name__ == "__main__":
    unittest.main()
