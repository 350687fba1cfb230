"""Points 30 and 32: claims that two fonts give the same widths."""

import random
import unittest

from fontgap.claims import Claim, SameWidths
from fontgap.fonts import Font
from fontgap.joined import Joined
from tests.odd import ODD_VALUES, replaced, spoilt_lists
from tests.slow import random_font, slow_gap, texts
from tests.support import ProgramTest


def pair():
    return Font({"a": 2, "b": 3}), Font({"a": 2, "b": 3, "ab": 6})


def first_unlike(first, second, most):
    letters = sorted(set(first.letters) & set(second.letters))
    return next((text for text in texts(letters, most) if slow_gap(first, second, text) != 0), None)


class DecideTest(ProgramTest):
    def test_example(self):
        self.assertEqual(SameWidths(*pair()).decide(), ("fails", "ab"))

    def test_describe(self):
        self.assertTrue(issubclass(SameWidths, Claim))
        self.assertEqual(SameWidths(*pair()).describe(), "every text of ab: same width")
        self.assertEqual(SameWidths(Font({"c": 1, "a": 1, "x": 1}), Font({"a": 1, "c": 2})).describe(),
                         "every text of ac: same width")
        self.assertEqual(SameWidths(Font({"a": 1}), Font({"b": 1})).describe(), "every text of : same width")

    def test_without_common_letters(self):
        claim = SameWidths(Font({"a": 1}), Font({"b": 1}))
        self.assertEqual(claim.decide(), ("holds", [0]))
        self.assertIs(claim.holds(), True)
        self.assertIs(claim.judge(("holds", [0])), True)
        self.assertIs(claim.judge(("fails", "")), False)

    def test_a_font_and_itself(self):
        for font in (pair()[1], Font({"a": 0}), Font({"a": 5, "b": 1, "ab": 9, "bab": 7}, {("a", "bab"): 3})):
            claim = SameWidths(font, font)
            self.assertEqual(claim.decide(), ("holds", [0] * len(Joined(font, font))))
            self.assertIs(claim.holds(), True)

    def test_unlike_fonts_of_the_same_widths(self):
        first = Font({"a": 2, "b": 3})
        second = Font({"a": 2, "b": 3, "ab": 5, "bba": 8}, {("bba", "bba"): 0})
        claim = SameWidths(first, second)
        certificate = claim.decide()
        self.assertEqual(certificate[0], "holds")
        self.assertIs(claim.judge(certificate), True)
        joined = Joined(first, second)
        self.assertEqual(certificate[1], [first - second for first, second in
                                          (joined.finish(number) for number in range(len(joined)))])

    def test_the_blank_and_letters_of_one_font_have_no_effect(self):
        first = Font({"a": 2, "x": 9, "ax": 1}, {("x", "a"): 7}, blank=1)
        second = Font({"a": 2, "y": 4, "yaa": 77}, blank=2)
        self.assertIs(SameWidths(first, second).holds(), True)

    def test_the_first_unlike_text(self):
        chance = random.Random(32)
        ends = {"holds": 0, "fails": 0}
        for _ in range(300):
            first = random_font(chance, chance.choice(["ab", "abc"]), chance.randrange(4), 10)
            second = first.copy()
            for _ in range(chance.randrange(1, 3)):
                glyphs = second.glyphs()
                second.apply(chance.choice([
                    [("kern", chance.choice(glyphs), chance.choice(glyphs), chance.randrange(3))],
                    [("advance", "".join(chance.choice("ab") for _ in range(3)), 150)],
                    [("drop", second.ligatures[0])] if second.ligatures else [],
                    [("advance", chance.choice(glyphs), chance.choice([55, 99]))]]))
            claim = SameWidths(first, second)
            certificate = claim.decide()
            expected = first_unlike(first, second, 7 if len(first.letters) == 2 else 5)
            if expected is None:
                self.assertTrue(certificate[0] == "holds" or len(certificate[1]) > 5)
            else:
                self.assertEqual(certificate, ("fails", expected))
            ends[certificate[0]] += 1
            self.assertIs(claim.judge(certificate), True)
            self.assertIs(claim.holds(), certificate[0] == "holds")
        self.assertGreater(min(ends.values()), 20)

    def test_long_unlike_texts(self):
        first = Font({"a": 1, "b": 1, "abbaab": 6, "bbabab": 6}, {("bbabab", "abbaab"): 5})
        second = Font({"a": 1, "b": 1, "abbaab": 6, "bbabab": 6})
        claim = SameWidths(first, second)
        self.assertEqual(claim.decide(), ("fails", "bbabababbaab"))
        self.assertIs(claim.judge(("fails", "bbabababbaab")), True)
        self.assertIs(claim.judge(("fails", "bbabababbaa")), False)

    def test_several_unlike_texts_of_one_length(self):
        first = Font.even("abc", 5)
        second = Font({"a": 5, "b": 5, "c": 5}, {("b", "a"): 1, ("a", "c"): 1, ("c", "c"): -1})
        self.assertEqual(SameWidths(first, second).decide(), ("fails", "ac"))
        # Here the widths part at the end of the text, not by a growth.
        second = Font({"a": 5, "b": 5, "c": 5, "bab": 15, "ba": 11, "cab": 1})
        self.assertEqual(SameWidths(first, second).decide(), ("fails", "ba"))

    def test_claims_keep_copies_of_their_fonts(self):
        first, second = pair()
        claim = SameWidths(first, second)
        second.apply([("drop", "ab"), ("advance", "c", 5)])
        first.apply([("advance", "c", 1), ("advance", "a", 99)])
        self.assertEqual(claim.decide(), ("fails", "ab"))
        self.assertIs(claim.judge(("fails", "a")), False)
        self.assertEqual(claim.describe(), "every text of ab: same width")

    def test_returned_certificates_may_be_changed(self):
        claim = SameWidths(pair()[1], pair()[1])
        claim.decide()[1].clear()
        certificate = claim.decide()
        self.assertEqual(certificate[1], [0] * 7)
        certificate[1][3] = 10 ** 9
        self.assertIs(claim.judge(certificate), False)
        self.assertEqual(claim.decide()[1], [0] * 7)


class JudgeTest(ProgramTest):
    def setUp(self):
        self.first = Font({"a": 2, "b": 3})
        self.second = Font({"a": 2, "b": 3, "ab": 5, "bba": 8})
        self.claim = SameWidths(self.first, self.second)

    def test_spoilt_lists(self):
        offsets = self.claim.decide()[1]
        self.assertIs(self.claim.judge(("holds", offsets)), True)
        for value in spoilt_lists(offsets):
            self.assertIs(self.claim.judge(("holds", value)), False, value)
        for at in range(len(offsets)):
            for change in (-10 ** 30, -1, 1, 2):
                spoilt = replaced(offsets, at, offsets[at] + change)
                self.assertIs(self.claim.judge(("holds", spoilt)), False)
        self.assertIs(self.claim.judge(("holds", [value + 1 for value in offsets])), False)
        self.assertIs(self.claim.judge(["holds", offsets]), False)
        self.assertIs(self.claim.judge(("fails", offsets)), False)
        self.assertIs(self.claim.judge(("holds", offsets, "")), False)

    def test_one_wrong_step_or_end_is_enough(self):
        # With these fonts only the last kern makes a difference, and only at one step.
        first = Font({"a": 2, "b": 3})
        second = Font({"a": 2, "b": 3}, {("b", "a"): 1})
        self.assertIs(SameWidths(first, second).judge(("holds", [0, 0, 0])), False)
        # Here no step parts the widths, only the end of the text "ab": behind it, a longer ligature always follows.
        second = Font({"a": 2, "b": 3, "ab": 6, "aba": 7, "abb": 8})
        joined = Joined(first, second)
        totals = [joined.run(joined.shortest(number)) for number in range(len(joined))]
        offsets = [second_total - first_total for _, first_total, second_total in totals]
        for number, _, after, first_width, second_width in joined.edges():
            self.assertEqual(offsets[after], offsets[number] + second_width - first_width)
        claim = SameWidths(first, second)
        self.assertEqual(claim.decide(), ("fails", "ab"))
        self.assertIs(claim.judge(("holds", offsets)), False)

    def test_failing_texts(self):
        first, second = pair()
        claim = SameWidths(first, second)
        for text in texts("ab", 6):
            self.assertIs(claim.judge(("fails", text)), slow_gap(first, second, text) != 0)
            self.assertIs(self.claim.judge(("fails", text)), False)

    def test_spoilt_texts(self):
        claim = SameWidths(Font({"a": 2, "b": 3, "c": 5}), Font({"a": 2, "b": 3, "ab": 6, "d": 5}))
        self.assertIs(claim.judge(("fails", "ab")), True)
        for text in ("abc", "cab", "abd", "ab ", " ab", "ab\n", "AB", "ab~", ["a", "b"], ("a", "b"), ["ab"], ("ab",),
                     None, True, False, 0, [], (), ""):
            self.assertIs(claim.judge(("fails", text)), False, text)
        for value in (["fails", "ab"], ("fails", "ab", ""), ("fails", "ab", "", 0, ""), ("holds", "ab"), (False, "ab"),
                      (("fails", "ab"),), "ab", ("fails",), ("FAILS", "ab")):
            self.assertIs(claim.judge(value), False, value)

    def test_a_long_text(self):
        claim = SameWidths(*pair())
        self.assertIs(claim.judge(("fails", "b" * 100000 + "ab")), True)
        self.assertIs(claim.judge(("fails", "b" * 100000 + "a")), False)

    def test_true_and_false_are_no_integers(self):
        font = Font({"a": 1})
        claim = SameWidths(font, font)
        self.assertIs(claim.judge(("holds", [0, 0])), True)
        self.assertIs(claim.judge(("holds", [False, 0])), False)
        self.assertIs(claim.judge(("holds", [0, False])), False)
        # Here the one offset of the letter held back is 1.
        claim = SameWidths(Font({"a": 1, "aa": 2}), Font({"a": 1}))
        offsets = claim.decide()[1]
        self.assertIn(1, offsets)
        self.assertIs(claim.judge(("holds", offsets)), True)
        self.assertIs(claim.judge(("holds", [True if value == 1 else value for value in offsets])), False)

    def test_odd_values(self):
        claims = [self.claim, SameWidths(*pair()), SameWidths(Font({"a": 1}), Font({"a": 1}))]
        for claim in claims:
            for value in ODD_VALUES:
                expected = value == ("fails", "ab") and claim is claims[1]
                self.assertIs(claim.judge(value), expected, value)
                self.assertIs(claim.judge(("holds", value)), False, value)
                self.assertIs(claim.judge(("holds", [value])), False, value)
        empty = SameWidths(Font({}), Font({}))
        for value in ODD_VALUES:
            self.assertIs(empty.judge(value), False, value)
            self.assertIs(empty.judge(("holds", [value])), value == 0 and value is not False, value)


if __name__ == "__main__":
    unittest.main()
