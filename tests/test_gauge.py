"""Point 20: gauges."""

import random
import unittest

from fontgap.errors import UnknownLetter
from fontgap.fonts import Font
from fontgap.shaping import Gauge, width
from tests.slow import random_font, slow_width, texts
from tests.support import ProgramTest


def sample():
    return Font({"f": 300, "i": 200, "fi": 450, "if": 333}, {("f", "f"): -20, ("fi", "fi"): -3, ("i", "f"): 1})


class GaugeTest(ProgramTest):
    def test_width_of_a_text(self):
        gauge = Gauge(sample())
        self.assertEqual(gauge("ffi"), 750)
        self.assertEqual(gauge("ffi", 1), 750)
        self.assertEqual(gauge("ffi", times=2), 1500)
        self.assertEqual(gauge(text="fi", times=3), 1344)

    def test_glyphs_across_the_ends_of_the_text(self):
        font = Font({"a": 10, "b": 20, "aaaaaa": 7, "ba": 5}, {("aaaaaa", "a"): 1})
        gauge = Gauge(font)
        self.assertEqual(gauge("a", 6), 7)
        self.assertEqual(gauge("a", 5), 50)
        self.assertEqual(gauge("a", 7), 18)
        self.assertEqual(gauge("aaaa", 3), 14)
        self.assertEqual(gauge("ab", 3), 10 + 5 + 5 + 20)

    def test_nothing_at_all(self):
        gauge = Gauge(sample())
        self.assertEqual([gauge(""), gauge("", 0), gauge("", 5), gauge("ffi", 0)], [0, 0, 0, 0])
        self.assertEqual(Gauge(Font({}))("", 9), 0)
        self.assertEqual(gauge.total, 0)

    def test_unknown_letters_also_without_times(self):
        gauge = Gauge(sample())
        gauge("f")
        self.assert_refused(UnknownLetter("x", 2), gauge, "fix")
        self.assert_refused(UnknownLetter("x", 2), gauge, "fixy", 0)
        self.assert_refused(UnknownLetter(" ", 0), gauge, " ", times=3)
        self.assert_refused(UnknownLetter("a", 0), Gauge(Font({})), "a")
        self.assertEqual(gauge.total, 300)

    def test_total(self):
        gauge = Gauge(sample())
        self.assertEqual(gauge.total, 0)
        gauge("f")
        gauge("fi", 2)
        self.assertEqual(gauge.total, 300 + 897)
        gauge("", 4)
        gauge("f", 0)
        gauge("i")
        self.assertEqual(gauge.total, 1397)

    def test_totals_of_two_gauges_are_their_own(self):
        font = sample()
        one, two = Gauge(font), Gauge(font)
        one("f")
        self.assertEqual([one.total, two.total], [300, 0])

    def test_it_follows_the_font(self):
        font = sample()
        gauge = Gauge(font)
        self.assertEqual(gauge("fi", 2), 897)
        font["fi"] = 500
        self.assertEqual(gauge("fi", 2), 997)
        font.set_kern("fi", "fi", 0)
        self.assertEqual(gauge("fi", 2), 1000)
        font.drop("fi")
        self.assertEqual(gauge("fi", 2), 300 + 333 + 200)
        font.drop("if")
        font.drop("i")
        self.assert_refused(UnknownLetter("i", 1), gauge, "fi")
        font.apply([("advance", "i", 4), ("advance", "ii", 1)])
        self.assertEqual(gauge("i", 3), 5)
        self.assertEqual(gauge.total, 897 + 997 + 1000 + 833 + 5)

    def test_it_does_not_change_the_font(self):
        font = sample()
        Gauge(font)("ffi", 3)
        self.assertEqual(font, sample())
        self.assertEqual(font.changes, 0)

    def test_very_many_times(self):
        font = Font({"a": 10, "b": 20, "aaaaaa": 7, "ba": 5}, {("aaaaaa", "aaaaaa"): -2, ("ba", "ba"): 3})
        gauge = Gauge(font)
        many = 10 ** 40
        self.assertEqual(gauge("a", 6 * many), 5 * many + 2)
        self.assertEqual(gauge("a", 6 * many + 5), 5 * many + 2 + 50)
        self.assertEqual(gauge("ab", many + 1), 10 + 8 * many - 3 + 20)
        self.assertEqual(gauge("", many), 0)

    def test_every_number_of_times(self):
        chance = random.Random(20)
        for _ in range(40):
            font = random_font(chance, "ab", chance.randrange(8))
            gauge = Gauge(font)
            total = 0
            for text in texts("ab", 3) + ["abbab", "aababba", "abababb"]:
                for times in range(15):
                    expected = slow_width(font, text * times)
                    total += expected
                    self.assertEqual(gauge(text, times), expected, (text, times))
            self.assertEqual(gauge.total, total)

    def test_long_laps(self):
        chance = random.Random(21)
        for _ in range(20):
            font = random_font(chance, "abc", chance.randrange(4, 12))
            for _ in range(10):
                text = "".join(chance.choice("abc") for _ in range(chance.randrange(1, 12)))
                times = chance.randrange(100, 200)
                self.assertEqual(Gauge(font)(text, times), width(font, text * times))


if __name__ == "__main__":
    unittest.main()
