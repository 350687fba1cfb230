"""Points 25 to 27: the worst ring and the greatest gap."""

import random
import unittest

from fontgap.bounds import Extreme, extreme, greatest_gap, spread, worst_rate
from fontgap.errors import NoCommonLetters
from fontgap.fonts import Font
from fontgap.joined import Joined
from fontgap.ratios import Ratio
from tests.slow import (follow, random_font, slow_gap, slow_potentials, slow_rate, slow_width, small_font, steps_of,
                        texts)
from tests.support import ProgramTest


def pair():
    return Font({"a": 2, "b": 3}), Font({"a": 2, "b": 3, "ab": 6})


def random_pair(chance):
    """Return two fonts, some with letters that one of them alone has, also within a ligature."""
    first_letters = chance.choice(["a", "ab", "ab", "abc", "abx"])
    second_letters = chance.choice(["a", "ab", "ab", "abc", "yab"])
    make = chance.choice([random_font, small_font])
    last = 30 if make is random_font else chance.choice([1, 4, 1000000 // 2])
    return (make(chance, first_letters, chance.randrange(4), last),
            make(chance, second_letters, chance.randrange(4), last))


def slow_greatest_gap(joined, letters):
    """Return the greatest gap and the first text that has it, with all values of all lengths at hand."""
    steps = steps_of(joined)
    layers = [[joined.finish(number)[1] - joined.finish(number)[0] for number in range(len(joined))]]
    for _ in range(letters):
        layers.append([max(layers[-1][after] + second - first for _, after, first, second in row) for row in steps])
    number = 0
    text = ""
    for left in range(letters, 0, -1):
        for letter, after, first, second in steps[number]:
            if layers[left][number] == layers[left - 1][after] + second - first:
                break
        text += letter
        number = after
    return layers[letters][0], text


class ExtremeTest(ProgramTest):
    def check(self, first, second):
        """Check all that extreme tells about two fonts; return it."""
        joined = Joined(first, second)
        found = extreme(joined)
        self.assertIs(type(found), Extreme)
        rate = slow_rate(joined)
        self.assertEqual(found.rate, Ratio(rate.numerator, rate.denominator))
        self.assertEqual(worst_rate(joined), found.rate)
        top, bottom = found.rate.top, found.rate.bottom
        self.assertLess(len(found.prefix), len(joined))
        self.assertTrue(1 <= len(found.ring) <= len(joined))
        number, _, _ = joined.run(found.prefix)
        after, first_growth, second_growth = follow(joined, number, found.ring)
        self.assertEqual(after, number)
        self.assertEqual(Ratio(second_growth - first_growth, len(found.ring)), found.rate)
        potentials = slow_potentials(joined, top, bottom)
        self.assertEqual(found.potentials, potentials)
        ends = [joined.finish(state) for state in range(len(joined))]
        self.assertEqual(found.excess, max(value + bottom * (end[1] - end[0]) for value, end in zip(potentials, ends)))
        self.assertLess(len(found.text), len(joined))
        self.assertEqual(bottom * slow_gap(first, second, found.text) - top * len(found.text), found.excess)
        return found

    def test_example(self):
        found = self.check(*pair())
        self.assertEqual(found.rate, Ratio(1, 2))
        self.assertEqual(found.excess, 0)
        self.assertEqual(found.text, "")
        self.assertEqual(sorted(found.ring), ["a", "b"])
        self.assertEqual(found.potentials, [0, -5, -1, -6, 0, -6, -5])

    def test_the_other_way_round(self):
        first, second = pair()
        found = self.check(second, first)
        self.assertEqual(found.rate, Ratio(0))
        self.assertEqual(found.excess, 0)

    def test_a_font_against_itself(self):
        for font in (pair()[1], Font({"a": 0}), Font({"a": 5, "aa": 3}, {("aa", "a"): -3})):
            found = self.check(font, font)
            self.assertEqual(found.rate, Ratio(0))
            self.assertEqual(found.excess, 0)
            self.assertEqual(found.potentials, [0] * len(found.potentials))

    def test_a_negative_rate_and_an_excess_by_the_end(self):
        first = Font({"a": 5, "b": 7})
        second = Font({"a": 4, "b": 1, "ab": 2})
        found = self.check(first, second)
        self.assertEqual(found.rate, Ratio(-1))
        self.assertEqual(found.excess, 0)
        found = self.check(Font({"a": 1}, {("a", "a"): 1}), Font({"a": 3}, {("a", "a"): -2}))
        self.assertEqual((found.rate, found.excess, len(found.text)), (Ratio(-1), 3, 1))

    def test_great_numbers(self):
        most = Font.MOST_ADVANCE
        first = Font({"a": 0, "b": most, "c": 999983}, {("b", "b"): most, ("b", "c"): -999983})
        second = Font({"a": most, "b": most, "c": 0, "abc": most, "ca": 1}, {("a", "a"): -most})
        self.check(first, second)
        self.check(second, first)

    def test_random_fonts(self):
        chance = random.Random(26)
        for _ in range(150):
            first, second = random_pair(chance)
            found = self.check(first, second)
            top, bottom = found.rate.top, found.rate.bottom
            letters = sorted(set(first.letters) & set(second.letters))
            for text in texts(letters, 5):
                self.assertLessEqual(bottom * slow_gap(first, second, text), top * len(text) + found.excess)
            for _ in range(3):
                text = "".join(chance.choice(letters) for _ in range(200)) + found.ring * 20
                self.assertLessEqual(bottom * slow_gap(first, second, text), top * len(text) + found.excess)

    def test_no_less_excess_and_no_less_rate(self):
        chance = random.Random(27)
        for _ in range(20):
            first, second = random_pair(chance)
            found = extreme(Joined(first, second))
            top, bottom = found.rate.top, found.rate.bottom
            # With any less rate, here one less by 1 / (100 * bottom), the ring goes beyond every excess.
            text = found.prefix + found.ring * 2
            values = []
            for times in (100, 200):
                long = text + found.ring * times
                values.append(100 * bottom * slow_gap(first, second, long) - (100 * top - 1) * len(long))
            self.assertEqual(values[1] - values[0], 100 * len(found.ring))

    def test_long_rings(self):
        letters = "abcdefghijklmnopqrstuvwxyz"
        first = Font.even(letters, 50)
        kerns = {(left, right): 40 for left, right in zip(letters, letters[1:] + "a")}
        found = self.check(first, Font({letter: 50 for letter in letters}, kerns))
        self.assertEqual((found.rate, len(found.ring)), (Ratio(40), 26))
        found = self.check(Font({"a": 10, "aaaaa": 49}), Font({"a": 10, "aaaaaa": 61}))
        self.assertEqual((found.rate, len(found.ring)), (Ratio(11, 30), 30))

    def test_four_thousand_states(self):
        chance = random.Random(28)
        fonts = []
        for _ in range(2):
            letters = "abcdefghijkl"
            names = {"".join(chance.choice(letters) for _ in range(chance.choice([3, 4, 5, 6]))) for _ in range(40)}
            advances = {name: chance.randrange(100, 900) for name in sorted(names) + list(letters)}
            kerns = {(left, right): chance.randrange(-100, 100) for left in letters for right in letters}
            fonts.append(Font(advances, kerns))
        joined = Joined(*fonts)
        self.assertGreater(len(joined), 2500)
        found = extreme(joined)
        self.assertEqual(len(found.potentials), len(joined))
        top, bottom = found.rate.top, found.rate.bottom
        for number, _, after, first_width, second_width in joined.edges():
            growth = bottom * (second_width - first_width) - top
            self.assertGreaterEqual(found.potentials[after], found.potentials[number] + growth)
        gap, text = greatest_gap(joined, 1000)
        self.assertLessEqual(bottom * gap, top * 1000 + found.excess)
        self.assertEqual(slow_gap(*fonts, text), gap)

    def test_a_new_list_at_each_call(self):
        joined = Joined(*pair())
        extreme(joined).potentials.clear()
        found = extreme(joined)
        found.potentials[0] = 99
        self.assertEqual(extreme(joined).potentials, [0, -5, -1, -6, 0, -6, -5])

    def test_no_common_letters(self):
        for first, second in ((Font({"a": 1}), Font({"b": 1})), (Font({}), Font({}))):
            joined = Joined(first, second)
            self.assert_refused(NoCommonLetters(), extreme, joined)
            self.assert_refused(NoCommonLetters(), worst_rate, joined)
            self.assert_refused(NoCommonLetters(), spread, first, second)


class SpreadTest(ProgramTest):
    def test_example(self):
        first, second = pair()
        self.assertEqual(spread(first, second), (Ratio(0), Ratio(1, 2)))
        self.assertEqual(spread(second, first), (Ratio(-1, 2), Ratio(0)))
        self.assertEqual(spread(second, second), (Ratio(0), Ratio(0)))

    def test_random_fonts(self):
        chance = random.Random(29)
        for _ in range(30):
            first, second = random_pair(chance)
            least, greatest = spread(first, second)
            expected = slow_rate(Joined(second, first)), slow_rate(Joined(first, second))
            self.assertEqual(least, Ratio(-expected[0].numerator, expected[0].denominator))
            self.assertEqual(greatest, Ratio(expected[1].numerator, expected[1].denominator))
            self.assertLessEqual(least.compare(greatest), 0)


class GreatestGapTest(ProgramTest):
    def test_example(self):
        joined = Joined(*pair())
        self.assertEqual([greatest_gap(joined, letters) for letters in range(5)],
                         [(0, ""), (0, "a"), (1, "ab"), (1, "aab"), (2, "abab")])

    def test_no_common_letters(self):
        joined = Joined(Font({"a": 1, "c": 2}), Font({"b": 1}))
        self.assertEqual(greatest_gap(joined, 0), (0, ""))
        self.assert_refused(NoCommonLetters(), greatest_gap, joined, 1)
        self.assert_refused(NoCommonLetters(), greatest_gap, joined, 1000)

    def test_all_short_texts(self):
        chance = random.Random(30)
        for _ in range(60):
            first, second = random_pair(chance)
            joined = Joined(first, second)
            rows = texts(joined.letters, 5)
            for letters in range(6):
                gaps = [(slow_gap(first, second, text), text) for text in rows if len(text) == letters]
                best = max(gap for gap, _ in gaps)
                self.assertEqual(greatest_gap(joined, letters), (best, min(text for gap, text in gaps if gap == best)))

    def test_each_length_up_to_a_hundred(self):
        chance = random.Random(31)
        for _ in range(8):
            first, second = random_pair(chance)
            joined = Joined(first, second)
            for letters in range(100):
                self.assertEqual(greatest_gap(joined, letters), slow_greatest_gap(joined, letters))

    def test_a_thousand_letters(self):
        chance = random.Random(32)
        for _ in range(25):
            first, second = random_pair(chance)
            joined = Joined(first, second)
            gap, text = greatest_gap(joined, 1000)
            self.assertEqual((gap, text), slow_greatest_gap(joined, 1000))
            self.assertEqual(gap, slow_width(second, text) - slow_width(first, text))

    def test_twenty_six_letters(self):
        chance = random.Random(33)
        letters = "abcdefghijklmnopqrstuvwxyz"
        fonts = [random_font(chance, letters, 6, 3) for _ in range(2)]
        joined = Joined(*fonts)
        for size in (1, 2, 3, 20):
            self.assertEqual(greatest_gap(joined, size), slow_greatest_gap(joined, size))
        even = Joined(Font.even(letters, 1), Font.even(letters, 3))
        self.assertEqual(greatest_gap(even, 3), (6, "aaa"))
        self.assertEqual(greatest_gap(Joined(Font({"z": 1, "y": 2}), Font({"z": 5, "y": 4})), 2), (8, "zz"))


if __name__ == "__main__":
    unittest.main()
