"""Points 36 and 37: surveys."""

import random
import unittest
from fractions import Fraction

from fontgap.errors import Contradiction, InvalidNumber, UnknownGlyph, UnknownLetter
from fontgap.fonts import Font
from fontgap.kerning import idle_kerns, meeting
from fontgap.ratios import Ratio
from fontgap.survey import Survey
from tests.slow import random_font, slow_shape, slow_width
from tests.support import ProgramTest


def fraction(ratio):
    return Fraction(ratio.top, ratio.bottom)


def counts_of(font, text):
    """Return how often each unknown is added to make the width of a text, as a list."""
    glyphs = slow_shape(font, text)
    pairs = list(zip(glyphs, glyphs[1:]))
    kerned = [pairs.count((left, right)) for left, right, _ in font.kerns()]
    return [glyphs.count(glyph) for glyph in font.glyphs()] + kerned


def rank(rows):
    """Return the number of independent rows among these."""
    rows = [[Fraction(value) for value in row] for row in rows]
    found = 0
    for column in range(len(rows[0]) if rows else 0):
        at = next((at for at in range(found, len(rows)) if rows[at][column]), None)
        if at is not None:
            rows[found], rows[at] = rows[at], rows[found]
            for below in range(found + 1, len(rows)):
                times = rows[below][column] / rows[found][column]
                rows[below] = [value - times * other for value, other in zip(rows[below], rows[found])]
            found += 1
    return found


class SlowSurvey:
    """Decides by ranks alone what a survey knows."""

    def __init__(self, font):
        self.font = font
        self.recorded = []

    def rows(self, with_widths):
        return [counts_of(self.font, text) + ([width] if with_widths else []) for text, width in self.recorded]

    def follows(self, counts):
        return rank(self.rows(False) + [counts]) == rank(self.rows(False))

    def agrees(self, counts, width):
        return rank(self.rows(True) + [counts + [width]]) == rank(self.rows(True))


class SurveyTest(ProgramTest):
    def check_shares(self, survey, font, counts, shares):
        """Check that shares of the recorded texts make up counts; return what they make of their widths."""
        self.assertIs(type(shares), list)
        self.assertEqual(len(shares), len(survey.recorded))
        self.assertTrue(all(type(share) is Ratio for share in shares))
        sums = [Fraction(0)] * len(counts)
        width = Fraction(0)
        for share, (text, measured) in zip(shares, survey.recorded):
            sums = [total + fraction(share) * count for total, count in zip(sums, counts_of(font, text))]
            width += fraction(share) * measured
        self.assertEqual(sums, counts)
        return width

    def check_text(self, survey, font, slow, text):
        """Check all that a survey tells about a text."""
        counts = counts_of(font, text)
        told, shares, doubt = survey.told(text), survey.explain(text), survey.doubt(text)
        if slow.follows(counts):
            self.assertIs(type(told), Ratio)
            self.assertEqual(self.check_shares(survey, font, counts, shares), fraction(told))
            self.assertIsNone(doubt)
        else:
            self.assertEqual((told, shares), (None, None))
            self.check_doubt(survey, font, counts, doubt)

    def check_doubt(self, survey, font, counts, doubt):
        self.assertIs(type(doubt), dict)
        self.assertEqual(sorted(doubt), sorted(survey.unknowns))
        self.assertTrue(all(type(value) is int for value in doubt.values()))
        changes = [doubt[name] for name in survey.unknowns]
        for text, _ in survey.recorded:
            self.assertEqual(sum(change * count for change, count in zip(changes, counts_of(font, text))), 0)
        self.assertNotEqual(sum(change * count for change, count in zip(changes, counts)), 0)


class RecordTest(SurveyTest):
    def setUp(self):
        self.font = Font({"f": 300, "i": 200, "fi": 450}, {("f", "f"): -20, ("i", "fi"): 7})
        self.survey = Survey(self.font)

    def told(self):
        return (self.survey.unknowns, self.survey.recorded, self.survey.missing)

    def test_example(self):
        survey = Survey(Font({"a": 1, "b": 1}))
        self.assertIs(survey.record("ab", 5), True)
        self.assertIs(survey.record("aab", 7), True)
        self.assertEqual(str(survey.told("b")), "3")
        self.assertEqual((survey.recorded, survey.missing), ([("ab", 5), ("aab", 7)], 0))

    def test_unknowns(self):
        unknowns = [("advance", "f"), ("advance", "i"), ("advance", "fi"), ("kern", "f", "f"), ("kern", "i", "fi")]
        self.assertEqual(self.told(), (unknowns, [], 5))
        self.assertEqual(Survey(Font({})).unknowns, [])
        self.assertEqual(Survey(Font({})).missing, 0)
        font = Font({"b": 1, "a": 1, "ba": 1}, {("b", "b"): 1, ("a", "ba"): 1, ("ba", "a"): 1, ("a", "b"): 1})
        self.assertEqual(Survey(font).unknowns, [
            ("advance", "a"), ("advance", "b"), ("advance", "ba"), ("kern", "a", "b"), ("kern", "a", "ba"),
            ("kern", "b", "b"), ("kern", "ba", "a")])

    def test_what_follows(self):
        self.assertIs(self.survey.record("f", 10), True)
        self.assertIs(self.survey.record("ff", 15), True)
        self.assertIs(self.survey.record("fff", 20), False)
        self.assertIs(self.survey.record("f", 10), False)
        self.assertIs(self.survey.record("", 0), False)
        self.assertEqual(self.survey.recorded, [("f", 10), ("ff", 15), ("fff", 20), ("f", 10), ("", 0)])
        self.assertEqual(self.survey.missing, 3)
        self.assertEqual(self.survey.told("ffff"), Ratio(25))
        self.check_shares(self.survey, self.font, counts_of(self.font, "fffff"), self.survey.explain("fffff"))

    def test_contradictions(self):
        self.survey.record("ff", 10)
        self.survey.record("ff", 10)
        self.survey.record("fff", 17)
        before = self.told()
        for text, width in (("ff", 11), ("", 5), ("f", 0), ("fff", 16), ("ffff", 23)):
            with self.assertRaises(Contradiction) as caught:
                self.survey.record(text, width)
            found = self.check_shares(self.survey, self.font, counts_of(self.font, text), caught.exception.combination)
            self.assertNotEqual(found, width)
            self.assertEqual(self.told(), before)
            caught.exception.combination.clear()
        self.assertIs(self.survey.record("ffff", 24), False)

    def test_an_empty_text_alone(self):
        self.assert_refused(Contradiction([]), self.survey.record, "", 1)
        self.assertIs(self.survey.record("", 0), False)
        with self.assertRaises(Contradiction) as caught:
            self.survey.record("", -1)
        self.assertEqual(len(caught.exception.combination), 1)
        self.assertEqual(self.survey.missing, 5)
        self.assertEqual(self.survey.told(""), Ratio(0))

    def test_widths_at_and_beyond_the_limits(self):
        most = 1000000000
        self.assertIs(self.survey.record("f", most), True)
        self.assertIs(self.survey.record("i", -most), True)
        self.assertIs(self.survey.record("if", 0), False)
        self.assertEqual(self.survey.advance_of("i"), Ratio(-most))
        before = self.told()
        for width in (most + 1, -most - 1, 10 ** 30, True, False, None, "5", [5], (5,)):
            for text in ("fi", "f", ""):
                self.assert_refused(InvalidNumber(width), self.survey.record, text, width)
        self.assertEqual(self.told(), before)

    def test_unknown_letters_come_first(self):
        for call in (lambda text: self.survey.record(text, None), lambda text: self.survey.record(text, 5),
                     self.survey.told, self.survey.explain, self.survey.doubt):
            for text, letter, index in (("x", "x", 0), ("fix", "x", 2), ("f i", " ", 1), ("i\n", "\n", 1)):
                self.assert_refused(UnknownLetter(letter, index), call, text)
        self.assertEqual(self.survey.recorded, [])

    def test_new_lists_at_each_reading(self):
        self.survey.record("ff", 10)
        self.survey.unknowns.clear()
        self.survey.recorded.clear()
        self.survey.explain("ff").clear()
        self.survey.doubt("f").clear()
        self.assertEqual((len(self.survey.unknowns), self.survey.recorded, self.survey.missing), (5, [("ff", 10)], 4))
        self.assertEqual(len(self.survey.explain("ff")), 1)
        self.assertEqual(len(self.survey.doubt("f")), 5)

    def test_later_changes_of_the_font(self):
        self.survey.record("ffi", 10)
        self.font.apply([("drop", "fi"), ("advance", "x", 5), ("kern", "f", "i", 7)])
        self.assertEqual(len(self.survey.unknowns), 5)
        self.assert_refused(UnknownLetter("x", 0), self.survey.told, "x")
        self.assert_refused(UnknownGlyph("x"), self.survey.advance_of, "x")
        self.assertEqual(self.survey.kern_of("f", "i"), Ratio(0))
        self.assertEqual(self.survey.told("ffi"), Ratio(10))
        self.assertIsNone(self.survey.told("fi"))


class OneUnknownTest(SurveyTest):
    def setUp(self):
        self.font = Font({"f": 300, "i": 200, "fi": 450}, {("f", "f"): -20, ("f", "i"): 7})
        self.survey = Survey(self.font)

    def test_advances_and_kerns(self):
        self.assertEqual([self.survey.advance_of(glyph) for glyph in ("f", "i", "fi")], [None] * 3)
        self.assertIsNone(self.survey.kern_of("f", "f"))
        self.survey.record("ffi", 10)
        self.survey.record("fff", 9)
        self.assertEqual([self.survey.advance_of(glyph) for glyph in ("f", "i", "fi")], [None, None, None])
        self.assertIsNone(self.survey.kern_of("f", "f"))
        self.survey.record("ff", 7)
        self.assertEqual(self.survey.advance_of("f"), Ratio(5))
        self.assertEqual(self.survey.kern_of("f", "f"), Ratio(-3))
        self.assertIsNone(self.survey.advance_of("i"))
        self.assertEqual(self.survey.advance_of("fi"), Ratio(5))

    def test_values_that_are_no_integers(self):
        self.survey.record("iii", 10)
        self.assertEqual(self.survey.advance_of("i"), Ratio(10, 3))
        self.assertEqual(self.survey.told("ii"), Ratio(20, 3))
        self.assertEqual(self.survey.explain("ii"), [Ratio(2, 3)])

    def test_a_pair_that_is_not_kerned(self):
        for left, right in (("i", "i"), ("fi", "f"), ("fi", "fi"), ("i", "fi")):
            self.assertEqual(self.survey.kern_of(left, right), Ratio(0))

    def test_an_idle_kern_stays_unknown(self):
        for text in ("f", "i", "ff", "fi", "if", "ifi"):
            self.survey.record(text, slow_width(self.font, text))
        self.assertEqual(self.survey.missing, 1)
        self.assertIsNone(self.survey.kern_of("f", "i"))
        self.assertEqual(self.survey.kern_of("f", "f"), Ratio(-20))
        self.assertEqual(self.survey.advance_of("fi"), Ratio(450))
        self.assertEqual(self.survey.told("ffifif"), Ratio(slow_width(self.font, "ffifif")))

    def test_unknown_glyphs(self):
        for glyph in ("x", "if", "", "F", None, 0, True):
            self.assert_refused(UnknownGlyph(glyph), self.survey.advance_of, glyph)
            self.assert_refused(UnknownGlyph(glyph), self.survey.kern_of, glyph, "f")
            self.assert_refused(UnknownGlyph(glyph), self.survey.kern_of, "f", glyph)
            self.assert_refused(UnknownGlyph(glyph), self.survey.kern_of, glyph, "y")


class ModelTest(SurveyTest):
    def check_glyphs(self, survey, slow, font):
        units = [[int(name == other) for other in survey.unknowns] for name in survey.unknowns]
        for name, unit in zip(survey.unknowns, units):
            found = survey.advance_of(name[1]) if name[0] == "advance" else survey.kern_of(name[1], name[2])
            self.assertEqual(found is not None, slow.follows(unit))
            if found is not None:
                self.assertTrue(slow.agrees(unit, fraction(found)))

    def record(self, survey, slow, font, text, width):
        """Record a measurement and check the answer."""
        counts = counts_of(font, text)
        missing = survey.missing
        if not slow.follows(counts):
            self.assertIs(survey.record(text, width), True)
            self.assertEqual(survey.missing, missing - 1)
        elif slow.agrees(counts, width):
            self.assertIs(survey.record(text, width), False)
            self.assertEqual(survey.missing, missing)
        else:
            with self.assertRaises(Contradiction) as caught:
                survey.record(text, width)
            found = self.check_shares(survey, font, counts, caught.exception.combination)
            self.assertNotEqual(found, width)
            self.assertEqual((survey.recorded, survey.missing), (slow.recorded, missing))
            return "contradiction"
        slow.recorded.append((text, width))
        self.assertEqual(survey.recorded, slow.recorded)
        return "new" if missing > survey.missing else "old"

    def test_random_measurements(self):
        chance = random.Random(36)
        ends = {"new": 0, "old": 0, "contradiction": 0}
        for _ in range(40):
            letters = chance.choice(["a", "ab", "abc"])
            font = random_font(chance, letters, chance.randrange(4))
            survey, slow = Survey(font), SlowSurvey(font)
            for _ in range(chance.randrange(4, 16)):
                text = "".join(chance.choice(letters) for _ in range(chance.randrange(7)))
                width = slow_width(font, text) + chance.choice([0, 0, 0, 1, -50])
                ends[self.record(survey, slow, font, text, width)] += 1
                other = "".join(chance.choice(letters) for _ in range(chance.randrange(6)))
                self.check_text(survey, font, slow, other)
                self.check_text(survey, font, slow, text)
            self.check_glyphs(survey, slow, font)
        self.assertGreater(min(ends.values()), 30)

    def test_true_measurements_tell_the_font(self):
        chance = random.Random(37)
        for _ in range(10):
            font = random_font(chance, "abc", 3)
            survey = Survey(font)
            for _ in range(200):
                text = "".join(chance.choice("abc") for _ in range(chance.randrange(12)))
                survey.record(text, slow_width(font, text))
            for glyph in font.glyphs():
                self.assertIn(survey.advance_of(glyph), (None, Ratio(font[glyph])))
            for left, right, kern in font.kerns():
                self.assertIn(survey.kern_of(left, right), (None, Ratio(kern)))
            self.assertGreaterEqual(survey.missing, len(idle_kerns(font)))
            self.assertLess(survey.missing, len(survey.unknowns) - 5)
            self.assertEqual(len(survey.recorded), 200)

    def test_many_unknowns(self):
        chance = random.Random(38)
        letters = "abcdefghijklmnopqrstuvwxyz"
        font = random_font(chance, letters, 10, 10)
        survey = Survey(font)
        self.assertGreater(len(survey.unknowns), 140)
        for _ in range(120):
            text = "".join(chance.choice(letters) for _ in range(12))
            survey.record(text, slow_width(font, text))
        doubted = 0
        for left, right, _ in font.kerns():
            text = meeting(font, left, right)
            if text is not None and survey.told(text) is None:
                self.check_doubt(survey, font, counts_of(font, text), survey.doubt(text))
                doubted += 1
        self.assertGreater(doubted, 3)
        text = survey.recorded[5][0]
        self.assertEqual(survey.told(text), Ratio(slow_width(font, text)))


if __name__ == "__main__":
    unittest.main()
