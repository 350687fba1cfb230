"""The examples of the document, as far as their modules are there."""

import unittest

from fontgap.errors import DeedRefused, InUse, InvalidNumber, Overlap
from fontgap.fonts import Font
from fontgap.ratios import Ratio
from tests.support import ProgramTest


class RatioExamplesTest(ProgramTest):
    def test_str(self):
        self.assertEqual(str(Ratio(6, -8)), "-3/4")

    def test_repr(self):
        self.assertEqual(repr(Ratio(1, 2) + 1), "Ratio(3, 2)")

    def test_read(self):
        self.assert_refused(InvalidNumber("6/8"), Ratio.read, "6/8")


class FontExamplesTest(ProgramTest):
    def setUp(self):
        self.font = Font({"f": 300, "i": 200, "fi": 450}, {("f", "f"): -20})

    def test_glyphs(self):
        self.assertEqual(self.font.glyphs(), ["f", "i", "fi"])

    def test_overlap(self):
        self.assert_refused(Overlap("f", "i"), self.font.set_kern, "f", "i", -250)

    def test_refused_deed(self):
        error = self.assert_refused(DeedRefused(1), self.font.apply, [("blank", 3), ("drop", "f")])
        self.assert_same_error(error.__cause__, InUse("fi"))
        self.assertEqual(self.font.blank, 250)


if __name__ == "__main__":
    unittest.main()
