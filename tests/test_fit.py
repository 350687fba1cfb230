"""Point 28: lines that fit."""

import random
import unittest

from fontgap.errors import InvalidNumber
from fontgap.fit import least_widening, overflow, overflow_by_length
from fontgap.fonts import Font
from fontgap.joined import Joined
from tests.slow import random_font, slow_by_length, slow_overflow, slow_width, small_font, texts
from tests.support import ProgramTest


def pair():
    return Font({"a": 2, "b": 3}), Font({"a": 2, "b": 3, "ab": 6})


class OverflowTest(ProgramTest):
    def test_example(self):
        joined = Joined(*pair())
        self.assertEqual(overflow_by_length(joined, 5, 2), [-5, -2, 1])
        self.assertEqual(least_widening(joined, 5), 1)
        self.assertEqual(overflow(joined, 5), 1)

    def test_the_empty_text_fits_each_measure(self):
        joined = Joined(Font({"a": 2}), Font({"a": 7}))
        for measure in (0, 1):
            self.assertEqual(overflow(joined, measure), -measure)
            self.assertEqual(least_widening(joined, measure), 0)
            self.assertEqual(overflow_by_length(joined, measure, 2), [-measure, None, None])
        self.assertEqual(overflow(joined, 2), 5)
        self.assertEqual(overflow_by_length(joined, 4, 4), [-4, 3, 10, None, None])

    def test_no_common_letters(self):
        joined = Joined(Font({"a": 2}), Font({"b": 7}))
        self.assertEqual(overflow(joined, 8), -8)
        self.assertEqual(least_widening(joined, 8), 0)
        self.assertEqual(overflow_by_length(joined, 8, 2), [-8, None, None])

    def test_no_greatest_value(self):
        joined = Joined(Font({"a": 2, "b": 0}), Font({"a": 2, "b": 1}))
        for measure in (0, 1, 5):
            self.assertIsNone(overflow(joined, measure))
            self.assertIsNone(least_widening(joined, measure))
        self.assertEqual(overflow_by_length(joined, 2, 3), [-2, 0, 1, 2])

    def test_letters_without_width_in_both_fonts(self):
        joined = Joined(Font({"a": 2, "b": 0}), Font({"a": 3, "b": 0}))
        self.assertEqual(overflow(joined, 5), 1)
        self.assertEqual(overflow_by_length(joined, 5, 5), [-5, -2, 1, 1, 1, 1])

    def test_a_ring_without_width_that_no_fitting_text_reaches(self):
        # Only behind "a" the letter "b" has no width, and "a" needs 4.
        first = Font({"a": 4, "b": 3}, {("a", "b"): -3, ("b", "b"): -3})
        second = Font({"a": 1, "b": 1})
        joined = Joined(first, second)
        self.assertEqual(overflow(joined, 2), -2)
        self.assertIsNone(overflow(joined, 3))

    def test_a_ring_without_width_that_holds_letters_back(self):
        first = Font({"a": 5, "aaa": 0})
        second = Font({"a": 1})
        joined = Joined(first, second)
        self.assertIsNone(overflow(joined, 0))
        self.assertEqual(overflow_by_length(joined, 0, 6), [0, None, None, 3, None, None, 6])
        self.assertEqual(overflow_by_length(joined, 5, 6), [-5, -4, None, -2, -1, None, 1])

    def test_letters_held_back_that_fit_only_within_a_ligature(self):
        joined = Joined(Font({"a": 5, "b": 5, "ab": 3}), Font({"a": 100, "b": 0, "ab": 1}))
        self.assertEqual(overflow(joined, 3), -2)
        self.assertEqual(overflow(joined, 4), -3)
        self.assertEqual(overflow(joined, 5), 95)
        self.assertEqual(overflow_by_length(joined, 3, 3), [-3, None, -2, None])

    def test_wide_measures(self):
        joined = Joined(Font({"a": 400000, "b": 700000}), Font({"a": 400001, "b": 700003}))
        self.assertEqual(overflow(joined, 8300000), 5 * 1 + 9 * 3)
        self.assertEqual(overflow(joined, 10 ** 8), 5 * 1 + 140 * 3)
        # A third of the measure in "ab", which alone is wider in the second font.
        joined = Joined(Font({"a": 1, "b": 2}), Font({"a": 1, "b": 2, "ab": 4}))
        self.assertEqual(overflow(joined, 3 * 10 ** 4), 10 ** 4)
        self.assertEqual(overflow(joined, 3 * 10 ** 4 + 2), 10 ** 4)

    def test_two_fonts_that_are_nearly_alike(self):
        chance = random.Random(27)
        first = random_font(chance, "abcdefghijklmnopqrstuvwxyz", 3, 10)
        self.assertIn(overflow(Joined(first, first), 10007), (-1, 0))
        second = first.copy()
        second.set_advance("q", second["q"] + 1)
        found = overflow(Joined(first, second), 5000)
        self.assertTrue(5000 // (first["q"] + 50) <= found + 1 and found <= 100)

    def test_wrong_measures(self):
        joined = Joined(*pair())
        for measure in (-1, -10 ** 30, True, False, None, "5", [5], (5,), ""):
            self.assert_refused(InvalidNumber(measure), overflow, joined, measure)
            self.assert_refused(InvalidNumber(measure), least_widening, joined, measure)
            self.assert_refused(InvalidNumber(measure), overflow_by_length, joined, measure, 3)

    def test_all_short_texts(self):
        chance = random.Random(28)
        for _ in range(60):
            first, second = (random_font(chance, chance.choice(["ab", "abc"]), chance.randrange(4)) for _ in range(2))
            joined = Joined(first, second)

            rows = [(slow_width(first, text), slow_width(second, text), text) for text in texts(joined.letters, 6)]
            for measure in (0, 60, 100, 200, chance.randrange(300)):
                expected = []
                for letters in range(7):
                    fitting = [row[1] for row in rows if len(row[2]) == letters and row[0] <= measure]
                    expected.append(max(fitting) - measure if fitting else None)
                found = overflow_by_length(joined, measure, 6)
                self.assertEqual(found, expected)
                self.assertGreaterEqual(overflow(joined, measure), max(value for value in found if value is not None))
                for most in (0, 3):
                    self.assertEqual(overflow_by_length(joined, measure, most), expected[:most + 1])

    def test_against_a_search_of_all_nodes(self):
        chance = random.Random(29)
        unbounded = 0
        for _ in range(150):
            most = chance.choice([1, 2, 4])
            letters = chance.choice(["a", "ab", "ab"])
            first = small_font(chance, letters, chance.randrange(3), most)
            second = small_font(chance, letters, chance.randrange(3), most)
            joined = Joined(first, second)
            if len(joined) <= 12:
                measure = chance.randrange(5)
                expected = slow_overflow(joined, measure)
                unbounded += expected is None
                self.assertEqual(overflow(joined, measure), expected)
                self.assertEqual(least_widening(joined, measure), None if expected is None else max(0, expected))
                self.assertEqual(overflow_by_length(joined, measure, 12), slow_by_length(joined, measure, 12))
        self.assertTrue(10 < unbounded < 120)

    def test_wider_than_a_few_letters(self):
        chance = random.Random(30)
        for _ in range(25):
            first = random_font(chance, "abc", chance.randrange(4))
            second = random_font(chance, "abc", chance.randrange(4))
            joined = Joined(first, second)
            expected = slow_by_length(joined, 700, 150)
            # Ligatures of up to six letters may leave gaps between the lengths at which texts fit.
            if expected[100:] == [None] * 51:
                self.assertEqual(overflow(joined, 700), max(value for value in expected if value is not None))
            self.assertEqual(overflow_by_length(joined, 700, 150), expected)


if __name__ == "__main__":
    unittest.main()
