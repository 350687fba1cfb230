"""Ratios: points 3 to 5."""

import unittest
from fractions import Fraction

from fontgap.errors import InvalidNumber
from fontgap.ratios import Ratio
from tests.support import ProgramTest

NOT_INTEGERS = [True, False, None, "1", "", b"1", [1], (1,), (1, 2), {}, 1.0, Ratio(1)]
SMALL = [(top, bottom) for top in range(-6, 7) for bottom in range(-6, 7) if bottom != 0]
HUGE = 10 ** 400


def same(ratio, fraction):
    return type(ratio) is Ratio and (ratio.top, ratio.bottom) == (fraction.numerator, fraction.denominator)


class MakingTest(ProgramTest):
    def test_lowest_terms_with_a_positive_bottom(self):
        for top, bottom in SMALL:
            self.assertTrue(same(Ratio(top, bottom), Fraction(top, bottom)), (top, bottom))

    def test_each_mix_of_signs(self):
        for top, bottom, expected in [(6, 8, (3, 4)), (-6, 8, (-3, 4)), (6, -8, (-3, 4)), (-6, -8, (3, 4))]:
            ratio = Ratio(top, bottom)
            self.assertEqual((ratio.top, ratio.bottom), expected)

    def test_zero_is_zero_over_one(self):
        for bottom in (1, 2, -1, -7, HUGE, -HUGE):
            ratio = Ratio(0, bottom)
            self.assertEqual((ratio.top, ratio.bottom), (0, 1))

    def test_the_bottom_may_be_left_out(self):
        for top in (0, 1, -5, HUGE):
            ratio = Ratio(top)
            self.assertEqual((ratio.top, ratio.bottom), (top, 1))

    def test_keywords(self):
        ratio = Ratio(top=4, bottom=6)
        self.assertEqual((ratio.top, ratio.bottom), (2, 3))

    def test_very_large_integers(self):
        ratio = Ratio(6 * HUGE, -4 * HUGE)
        self.assertEqual((ratio.top, ratio.bottom), (-3, 2))
        ratio = Ratio(HUGE + 1, HUGE)
        self.assertEqual((ratio.top, ratio.bottom), (HUGE + 1, HUGE))
        ratio = Ratio(2 ** 20000, 2 ** 20001)
        self.assertEqual((ratio.top, ratio.bottom), (1, 2))

    def test_tops_that_are_no_integers(self):
        for value in NOT_INTEGERS:
            self.assertIs(self.assert_refused(InvalidNumber(value), Ratio, value).value, value)
            self.assertIs(self.assert_refused(InvalidNumber(value), Ratio, value, 2).value, value)

    def test_bottoms_that_are_no_integers_or_zero(self):
        for value in NOT_INTEGERS + [0]:
            self.assertIs(self.assert_refused(InvalidNumber(value), Ratio, 1, value).value, value)
            self.assertIs(self.assert_refused(InvalidNumber(value), Ratio, 0, bottom=value).value, value)

    def test_the_top_is_checked_before_the_bottom(self):
        self.assert_refused(InvalidNumber(True), Ratio, True, 0)
        self.assert_refused(InvalidNumber("top"), Ratio, "top", "bottom")
        self.assert_refused(InvalidNumber(None), Ratio, None, None)


class ArithmeticTest(ProgramTest):
    def test_two_ratios(self):
        for one in SMALL[::3]:
            for two in SMALL[::5]:
                left, right = Ratio(*one), Ratio(*two)
                self.assertTrue(same(left + right, Fraction(*one) + Fraction(*two)), (one, two))
                self.assertTrue(same(left - right, Fraction(*one) - Fraction(*two)), (one, two))
                self.assertTrue(same(left * right, Fraction(*one) * Fraction(*two)), (one, two))

    def test_an_integer_on_either_side(self):
        for one in SMALL:
            for number in (-7, -1, 0, 1, 4, HUGE):
                ratio, fraction = Ratio(*one), Fraction(*one)
                self.assertTrue(same(ratio + number, fraction + number), (one, number))
                self.assertTrue(same(number + ratio, number + fraction), (one, number))
                self.assertTrue(same(ratio - number, fraction - number), (one, number))
                self.assertTrue(same(number - ratio, number - fraction), (one, number))
                self.assertTrue(same(ratio * number, fraction * number), (one, number))
                self.assertTrue(same(number * ratio, number * fraction), (one, number))

    def test_negative_and_absolute_values(self):
        for one in SMALL:
            self.assertTrue(same(-Ratio(*one), -Fraction(*one)), one)
            self.assertTrue(same(abs(Ratio(*one)), abs(Fraction(*one))), one)

    def test_operands_do_not_change(self):
        left, right = Ratio(-3, 4), Ratio(5, 6)
        results = [left + right, left - right, left * right, -left, abs(left), left + 1, 1 - left, 2 * left]
        self.assertEqual((left.top, left.bottom, right.top, right.bottom), (-3, 4, 5, 6))
        for result in results:
            self.assertIsNot(result, left)
        total = left
        total += right
        self.assertEqual((left.top, left.bottom), (-3, 4))
        self.assertTrue(same(total, Fraction(1, 12)))

    def test_other_values_are_refused(self):
        for value in [True, False, None, "1", [1], (1, 2)]:
            for call in [lambda: Ratio(1, 2) + value, lambda: value + Ratio(1, 2),
                         lambda: Ratio(1, 2) - value, lambda: value - Ratio(1, 2),
                         lambda: Ratio(1, 2) * value, lambda: value * Ratio(1, 2)]:
                self.assertRaises(TypeError, call)


class ComparisonTest(ProgramTest):
    def test_equal_ratios(self):
        for one in SMALL:
            for two in SMALL[::2]:
                expected = Fraction(*one) == Fraction(*two)
                self.assertIs(Ratio(*one) == Ratio(*two), expected)
                self.assertIs(Ratio(*one) != Ratio(*two), not expected)

    def test_a_ratio_equals_no_other_value(self):
        for value in (3, 0, True, "3", None, (3, 1), [3], Fraction(3)):
            self.assertFalse(Ratio(3) == value)
            self.assertFalse(value == Ratio(3))
            self.assertTrue(Ratio(3) != value)
        self.assertFalse(Ratio(0) == 0)
        self.assertFalse(Ratio(1) == True)  # noqa: E712

    def test_compare(self):
        for one in SMALL:
            for two in SMALL[::2]:
                difference = Fraction(*one) - Fraction(*two)
                expected = (difference > 0) - (difference < 0)
                self.assert_number(Ratio(*one).compare(Ratio(*two)), expected)

    def test_compare_with_integers(self):
        for one in SMALL:
            for number in range(-7, 8):
                difference = Fraction(*one) - number
                self.assert_number(Ratio(*one).compare(number), (difference > 0) - (difference < 0))

    def test_compare_values_that_differ_very_little(self):
        low, high = Ratio(HUGE, HUGE + 1), Ratio(HUGE + 1, HUGE + 2)
        self.assert_number(low.compare(high), -1)
        self.assert_number(high.compare(low), 1)
        self.assert_number(low.compare(1), -1)
        self.assert_number(Ratio(HUGE + 1, HUGE).compare(1), 1)
        self.assert_number(Ratio(-HUGE - 1, HUGE).compare(-1), -1)
        self.assert_number(low.compare(Ratio(2 * HUGE, 2 * HUGE + 2)), 0)
        self.assertFalse(low == high)

    def test_compare_refuses_other_values(self):
        for value in (True, False, None, "1", [1], (1, 2)):
            self.assert_refused(InvalidNumber(value), Ratio(1).compare, value)

    def test_floor_and_ceiling(self):
        rows = [((7, 2), 3, 4), ((-7, 2), -4, -3), ((6, 2), 3, 3), ((-6, 2), -3, -3), ((0, 5), 0, 0),
                ((1, 3), 0, 1), ((-1, 3), -1, 0), ((HUGE + 1, HUGE), 1, 2), ((-HUGE - 1, HUGE), -2, -1)]
        for parts, floor, ceiling in rows:
            self.assert_number(Ratio(*parts).floor(), floor)
            self.assert_number(Ratio(*parts).ceiling(), ceiling)

    def assert_number(self, found, expected):
        self.assertIs(type(found), int)
        self.assertEqual(found, expected)


class WritingTest(ProgramTest):
    def test_str(self):
        for parts, text in [((3, 4), "3/4"), ((-3, 4), "-3/4"), ((6, -8), "-3/4"), ((3, 1), "3"), ((-3, 1), "-3"),
                            ((0, 9), "0"), ((10, 5), "2"), ((1, 10), "1/10")]:
            self.assertEqual(str(Ratio(*parts)), text)
            self.assertEqual(f"{Ratio(*parts)}", text)

    def test_repr(self):
        for parts, text in [((3, 4), "Ratio(3, 4)"), ((-3, 4), "Ratio(-3, 4)"), ((3, 1), "Ratio(3, 1)"),
                            ((0, 9), "Ratio(0, 1)"), ((2, -4), "Ratio(-1, 2)")]:
            self.assertEqual(repr(Ratio(*parts)), text)

    def test_very_large_integers_are_written_out(self):
        ratio = Ratio(-(10 ** 6000) - 7, 10 ** 5000)
        text = "1" + "0" * 5998 + "07"
        self.assertEqual(str(ratio), "-" + text + "/1" + "0" * 5000)
        self.assertEqual(repr(ratio), "Ratio(-" + text + ", 1" + "0" * 5000 + ")")
        self.assertEqual(str(Ratio(10 ** 5000)), "1" + "0" * 5000)
        for exponent in (63, 64, 65, 127, 128, 129, 1000):
            for number in (10 ** exponent - 1, 10 ** exponent, 10 ** exponent + 1, 1 - 10 ** exponent):
                self.assertEqual(str(Ratio(number)), str(number))


class ReadingTest(ProgramTest):
    def test_what_is_written_is_read(self):
        for parts in SMALL:
            ratio = Ratio(*parts)
            self.assertTrue(same(Ratio.read(str(ratio)), Fraction(*parts)))

    def test_near_misses(self):
        texts = ["6/8", "03", "-0", "+1", "3/1", "", " ", "-", "/", "+", "--1", "-+1", "- 1", "1-", "1 ", " 1", "1\n",
                 "\n1", "\n", "1/", "/2", "-/2", "1/0", "0/0", "0/1", "0/2", "-0/1", "1/-2", "-1/-2", "1/+2", "+1/2",
                 "1 /2", "1/ 2", "1/2 ", " 1/2", "1/2\n", "1\n/2", "1/02", "01/2", "00", "000", "-01", "1/2/3", "1//2",
                 "3/-4", "2/2", "4/2", "-6/8", "1.5", "1e3", "1_000", "1,000", "0x10", "abc", "a/b", "1/b", "1\\2",
                 "1:2", "Ratio(1, 2)", "\u00b2", "\u0663", "1/\u0663", "\u2212" + "1"]
        for text in texts:
            self.assert_refused(InvalidNumber(text), Ratio.read, text)

    def test_values_that_are_no_strings(self):
        for value in (None, True, 3, b"3", ["3"], ("3",), Ratio(3)):
            self.assert_refused(InvalidNumber(value), Ratio.read, value)

    def test_most_text(self):
        self.assertEqual(Ratio.MOST_TEXT, 100)
        for text in ["1" * 100, "-" + "7" * 99, "1/" + "3" + "0" * 97, "-1/" + "7" * 97]:
            self.assertEqual(len(text), 100)
            self.assertEqual(str(Ratio.read(text)), text)
        for text in ["1" * 101, "-" + "7" * 100, "1/" + "3" + "0" * 98, "1" * 5000, "0" * 101, " " * 101]:
            self.assert_refused(InvalidNumber(text), Ratio.read, text)

    def test_read_is_called_off_an_object_too(self):
        self.assertTrue(same(Ratio(5).read("-1/3"), Fraction(-1, 3)))


if __name__ == "__main__":
    unittest.main()
