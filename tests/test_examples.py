"""The examples of the document."""

import unittest

from fontgap.bounds import greatest_gap, worst_rate
from fontgap.breaking import break_lines
from fontgap.claims import GapBound, SameWidths
from fontgap.errors import DeedRefused, InUse, InvalidLine, InvalidNumber, Overlap
from fontgap.fit import least_widening, overflow_by_length
from fontgap.fonts import Font
from fontgap.joined import Joined
from fontgap.kerning import idle_kerns, needless
from fontgap.library import Library
from fontgap.notation import read_font, write_font
from fontgap.ratios import Ratio
from fontgap.reader import Reader
from fontgap.shaping import placed, shape, width
from fontgap.survey import Survey
from tests.support import ProgramTest


class RatioExamplesTest(ProgramTest):
    def test_str(self):
        self.assertEqual(str(Ratio(6, -8)), "-3/4")

    def test_repr(self):
        self.assertEqual(repr(Ratio(1, 2) + 1), "Ratio(3, 2)")

    def test_read(self):
        self.assert_refused(InvalidNumber("6/8"), Ratio.read, "6/8")


class FontExamplesTest(ProgramTest):
    def setUp(self):
        self.font = Font({"f": 300, "i": 200, "fi": 450}, {("f", "f"): -20})

    def test_glyphs(self):
        self.assertEqual(self.font.glyphs(), ["f", "i", "fi"])

    def test_overlap(self):
        self.assert_refused(Overlap("f", "i"), self.font.set_kern, "f", "i", -250)

    def test_refused_deed(self):
        error = self.assert_refused(DeedRefused(1), self.font.apply, [("blank", 3), ("drop", "f")])
        self.assert_same_error(error.__cause__, InUse("fi"))
        self.assertEqual(self.font.blank, 250)

    def test_shape(self):
        self.assertEqual(shape(self.font, "ffifi"), ["f", "fi", "fi"])

    def test_width(self):
        self.assertEqual(width(self.font, "ffi", tracking=10), 760)

    def test_placed(self):
        self.assertEqual(list(placed(self.font, "ffif")), [(0, "f", 0), (1, "fi", 300), (3, "f", 750)])

    def test_reader(self):
        reader = Reader(self.font)
        decided = reader.feed("ff")
        self.assertEqual([decided, reader.pending], [["f"], "f"])


class NotationExamplesTest(ProgramTest):
    def test_write(self):
        self.assertEqual(write_font(Font({"a": 5}, blank=3)), "blank 3\nadvance a 5\nend\n")

    def test_read(self):
        self.assert_refused(InvalidLine(2), read_font, "blank 3\nadvance a 05\nend\n")


class TwoFontsExamplesTest(ProgramTest):
    def setUp(self):
        self.first = Font({"a": 2, "b": 3})
        self.second = Font({"a": 2, "b": 3, "ab": 6})
        self.joined = Joined(self.first, self.second)

    def test_number_of_states(self):
        self.assertEqual(len(self.joined), 7)

    def test_step(self):
        self.assertEqual(self.joined.step(1, "b"), (4, 3, 6))

    def test_worst_rate(self):
        self.assertEqual(str(worst_rate(self.joined)), "1/2")

    def test_greatest_gap(self):
        self.assertEqual(greatest_gap(self.joined, 3), (1, "aab"))

    def test_overflow_by_length(self):
        self.assertEqual(overflow_by_length(self.joined, 5, 2), [-5, -2, 1])

    def test_least_widening(self):
        self.assertEqual(least_widening(self.joined, 5), 1)

    def test_same_widths(self):
        self.assertEqual(SameWidths(self.first, self.second).decide(), ("fails", "ab"))

    def test_gap_bound(self):
        claim = GapBound(self.first, self.second, Ratio(1, 2), 0)
        self.assertEqual([claim.holds(), claim.describe()],
                         [True, "every text of ab: gap at most 1/2 per letter plus 0"])


class BreakingExamplesTest(ProgramTest):
    def test_break_lines(self):
        self.assertEqual(break_lines(Font({"a": 2, "b": 3}, blank=1), "a b ab", 6), ["a b", "ab"])


class LaterExamplesTest(ProgramTest):
    def test_idle_kerns(self):
        self.assertEqual(idle_kerns(Font({"f": 3, "i": 2, "fi": 4}, {("f", "i"): -1})), [("f", "i")])

    def test_needless(self):
        self.assertIsNone(needless(Font({"a": 2, "b": 3, "ab": 5}), "ab"))

    def test_survey(self):
        survey = Survey(Font({"a": 1, "b": 1}))
        survey.record("ab", 5)
        survey.record("aab", 7)
        self.assertEqual(str(survey.told("b")), "3")

    def test_library(self):
        library = Library()
        library.put("one", Font({"a": 2, "b": 3}))
        library.put("two", Font({"a": 2, "b": 3, "ab": 6}))
        verdict = library.watch("w", "widths", "one", "two")
        changed = library.edit("two", [("advance", "ab", 5)])
        self.assertEqual([verdict, changed, library.report()], [False, ["w"], [("w", True)]])


if __name__ == "__main__":
    unittest.main()
