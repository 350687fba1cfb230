"""Points 30 and 31: claims in general, and bounds of the gap."""

import random
import unittest
from fractions import Fraction

from fontgap.bounds import extreme
from fontgap.claims import Claim, GapBound
from fontgap.errors import InvalidNumber
from fontgap.fonts import Font
from fontgap.joined import Joined
from fontgap.ratios import Ratio
from tests.odd import ODD_VALUES, replaced, spoilt_lists, spoilt_numbers
from tests.slow import follow, random_font, slow_gap, slow_potentials, slow_rate, small_font, texts
from tests.support import ProgramTest


def slow_fraction(rate):
    return Fraction(rate.top, rate.bottom)


def pair():
    return Font({"a": 2, "b": 3}), Font({"a": 2, "b": 3, "ab": 6})


def proves(joined, rate, slack, potentials):
    """Tell whether integers prove a bound, in the words of the document."""
    top, bottom = rate.top, rate.bottom
    steps = all(potentials[after] >= potentials[number] + bottom * (second - first) - top
                for number, _, after, first, second in joined.edges())
    ends = all(potentials[number] + bottom * (joined.finish(number)[1] - joined.finish(number)[0]) <= bottom * slack
               for number in range(len(joined)))
    return potentials[0] >= 0 and steps and ends


def breaks(first, second, rate, slack, text):
    return rate.bottom * (slow_gap(first, second, text) - slack) > rate.top * len(text)


class MakingTest(ProgramTest):
    def test_errors(self):
        first, second = pair()
        for rate in (1, 0, True, None, "1/2", (1, 2), [1]):
            self.assert_refused(InvalidNumber(rate), GapBound, first, second, rate, 0)
            self.assert_refused(InvalidNumber(rate), GapBound, first, second, rate, None)
        for slack in (True, False, None, "0", [0], (0,), Ratio(1)):
            with self.assertRaises(InvalidNumber) as caught:
                GapBound(first, second, Ratio(1, 2), slack)
            self.assertIs(caught.exception.value, slack)

    def test_classes(self):
        self.assertTrue(issubclass(GapBound, Claim))
        claim = Claim(*pair())
        self.assertEqual(claim.describe(), "every text of ab")

    def test_arguments_by_name(self):
        first, second = pair()
        claim = GapBound(slack=0, rate=Ratio(1, 2), second=second, first=first)
        self.assertIs(claim.holds(), True)

    def test_describe(self):
        first, second = pair()
        self.assertEqual(GapBound(first, second, Ratio(1, 2), 0).describe(),
                         "every text of ab: gap at most 1/2 per letter plus 0")
        self.assertEqual(GapBound(second, first, Ratio(-6, 2), -17).describe(),
                         "every text of ab: gap at most -3 per letter plus -17")
        self.assertEqual(GapBound(Font({"z": 1, "b": 1}), Font({"b": 1, "z": 1, "c": 1}), Ratio(0), 5).describe(),
                         "every text of bz: gap at most 0 per letter plus 5")
        self.assertEqual(GapBound(first, Font({"c": 1}), Ratio(2, 3), 1).describe(),
                         "every text of : gap at most 2/3 per letter plus 1")

    def test_numbers_of_any_size(self):
        first, second = pair()
        great = 10 ** 5000
        claim = GapBound(first, second, Ratio(1, great), great)
        zeros = "0" * 5000
        self.assertEqual(claim.describe(), f"every text of ab: gap at most 1/1{zeros} per letter plus 1{zeros}")
        certificate = claim.decide()
        self.assertEqual(certificate[0], "fails")
        self.assertIs(claim.judge(certificate), True)
        self.assertGreater(certificate[3], great)


class DecideTest(ProgramTest):
    def check(self, first, second, rate, slack):
        """Check what a claim decides against potentials that were found slowly; return the certificate."""
        claim = GapBound(first, second, rate, slack)
        certificate = claim.decide()
        joined = Joined(first, second)
        true = not joined.letters or slow_rate(joined) <= slow_fraction(rate)
        if true:
            true = proves(joined, rate, slack, slow_potentials(joined, rate.top, rate.bottom))
        self.assertEqual(certificate[0], "holds" if true else "fails")
        self.assertIs(claim.holds(), true)
        self.assertIs(claim.judge(certificate), True)
        self.check_form(joined, first, second, rate, slack, certificate)
        return certificate

    def check_form(self, joined, first, second, rate, slack, certificate):
        self.assertIs(type(certificate), tuple)
        if certificate[0] == "holds":
            self.assertEqual(len(certificate), 2)
            self.assertTrue(proves(joined, rate, slack, certificate[1]))
            return
        _, prefix, ring, times, suffix = certificate
        self.assertIs(type(times), int)
        number, _, _ = joined.run(prefix)
        self.assertEqual(follow(joined, number, ring)[0], number)
        if times < 1000:
            self.assertTrue(breaks(first, second, rate, slack, prefix + ring * times + suffix))

    def test_example(self):
        first, second = pair()
        self.assertEqual(self.check(first, second, Ratio(1, 2), 0)[0], "holds")
        self.assertEqual(self.check(first, second, Ratio(1, 2), -1), ("fails", "", "", 0, ""))

    def test_at_the_bound_and_one_below(self):
        chance = random.Random(31)
        for _ in range(60):
            make = chance.choice([random_font, small_font])
            first, second = (make(chance, "ab", chance.randrange(4), 40) for _ in range(2))
            found = extreme(Joined(first, second))
            rate, excess = found.rate, found.excess
            slack = -(-excess // rate.bottom)
            self.assertEqual(self.check(first, second, rate, slack)[0], "holds")
            self.assertEqual(self.check(first, second, rate, slack - 1)[0], "fails")
            less = rate - Ratio(1, 1000)
            self.assertEqual(self.check(first, second, less, slack + 100)[0], "fails")
            self.assertEqual(self.check(first, second, rate + Ratio(1, 1000), slack)[0], "holds")
            for _ in range(5):
                self.check(first, second, Ratio(chance.randrange(-60, 60), chance.randrange(1, 4)),
                           chance.randrange(-100, 300))

    def test_without_common_letters(self):
        first, second = Font({"a": 1}), Font({"b": 1})
        self.assertEqual(self.check(first, second, Ratio(-5), 0), ("holds", [0]))
        self.assertEqual(self.check(first, second, Ratio(5), -1), ("fails", "", "", 0, ""))

    def test_negative_rates_and_slacks(self):
        first, second = Font({"a": 5}), Font({"a": 3})
        self.assertEqual(self.check(first, second, Ratio(-2), 0)[0], "holds")
        self.assertEqual(self.check(first, second, Ratio(-2), -1)[0], "fails")
        self.assertEqual(self.check(first, second, Ratio(-3), 10 ** 6)[0], "fails")
        self.assertEqual(self.check(first, second, Ratio(-1), 0)[0], "holds")
        self.assertEqual(self.check(first, second, Ratio(7), -1)[0], "fails")

    def test_a_text_too_long_to_be_written_out(self):
        first, second = Font({"a": 5}), Font({"a": 6})
        claim = GapBound(first, second, Ratio(10 ** 12 - 1, 10 ** 12), 10 ** 12)
        certificate = claim.decide()
        self.assertEqual(certificate[0], "fails")
        self.assertGreater(certificate[3] * len(certificate[2]), 10 ** 23)
        self.assertIs(claim.judge(certificate), True)

    def test_claims_keep_copies_of_their_fonts(self):
        first, second = pair()
        claim = GapBound(first, second, Ratio(1, 2), 0)
        certificate = claim.decide()
        second.apply([("advance", "c", 5), ("advance", "a", 50), ("drop", "ab")])
        first.apply([("advance", "c", 1), ("drop", "b")])
        self.assertEqual(claim.decide(), certificate)
        self.assertIs(claim.judge(certificate), True)
        self.assertEqual(claim.describe(), "every text of ab: gap at most 1/2 per letter plus 0")

    def test_returned_certificates_may_be_changed(self):
        claim = GapBound(*pair(), Ratio(1, 2), 0)
        claim.decide()[1].clear()
        certificate = claim.decide()
        self.assertEqual(len(certificate[1]), 7)
        certificate[1][3] = 10 ** 9
        self.assertIs(claim.judge(certificate), False)
        self.assertIs(claim.judge(claim.decide()), True)


class JudgeHoldsTest(ProgramTest):
    def setUp(self):
        self.claim = GapBound(*pair(), Ratio(1, 2), 0)
        self.joined = Joined(*pair())

    def test_greater_potentials_are_valid_too(self):
        claim = GapBound(*pair(), Ratio(1, 2), 3)
        potentials = claim.decide()[1]
        for more in range(9):
            self.assertIs(claim.judge(("holds", [value + more for value in potentials])), more <= 6)
        self.assertIs(claim.judge(("holds", [value - 1 for value in potentials])), False)

    def test_one_number_changed(self):
        chance = random.Random(32)
        for _ in range(25):
            first, second = (random_font(chance, "ab", chance.randrange(3)) for _ in range(2))
            joined = Joined(first, second)
            found = extreme(joined)
            slack = found.excess // found.rate.bottom + 2
            claim = GapBound(first, second, found.rate, slack)
            for at in range(len(joined)):
                for change in (-10 ** 12, -50, -1, 0, 1, 2, 50, 10 ** 12):
                    potentials = replaced(found.potentials, at, found.potentials[at] + change)
                    expected = proves(joined, found.rate, slack, potentials)
                    self.assertIs(claim.judge(("holds", potentials)), expected)

    def test_spoilt_lists(self):
        potentials = self.claim.decide()[1]
        self.assertIs(self.claim.judge(("holds", potentials)), True)
        for value in spoilt_lists(potentials):
            self.assertIs(self.claim.judge(("holds", value)), False, value)
        self.assertIs(self.claim.judge(("fails", potentials)), False)
        self.assertIs(self.claim.judge(["holds", potentials]), False)
        self.assertIs(self.claim.judge(("holds", potentials, potentials)), False)
        self.assertIs(self.claim.judge((True, potentials)), False)

    def test_true_and_false_are_no_integers(self):
        first = second = Font({"a": 1})
        for number in (0, 1):
            claim = GapBound(first, second, Ratio(0), 1)
            self.assertIs(claim.judge(("holds", [number, number])), True)
            self.assertIs(claim.judge(("holds", [bool(number), number])), False)
            self.assertIs(claim.judge(("holds", [number, bool(number)])), False)

    def test_a_certificate_of_another_claim(self):
        first, second = pair()
        potentials = self.claim.decide()[1]
        self.assertIs(GapBound(first, second, Ratio(1, 3), 0).judge(("holds", potentials)), False)
        self.assertIs(GapBound(first, second, Ratio(1, 2), -1).judge(("holds", potentials)), False)
        self.assertIs(GapBound(first, first, Ratio(1, 2), 0).judge(("holds", potentials)), False)
        self.assertIs(GapBound(first, second, Ratio(2, 3), 4).judge(("holds", potentials)), False)


class JudgeFailsTest(ProgramTest):
    def setUp(self):
        self.first, self.second = pair()
        self.claim = GapBound(self.first, self.second, Ratio(1, 3), 1)

    def judge(self, *values):
        return self.claim.judge(("fails", *values))

    def test_texts_that_break_the_claim(self):
        # The gap is the number of "ab" in the text.
        self.assertIs(self.judge("", "ab", 3, ""), False)
        self.assertIs(self.judge("ab", "ab", 3, ""), True)
        self.assertIs(self.judge("ab", "ab", 2, ""), False)
        self.assertIs(self.judge("ab", "ab", 3, "a"), False)
        self.assertIs(self.judge("ab" * 4, "", 0, ""), True)
        self.assertIs(self.judge("ab" * 3, "", 0, ""), False)
        self.assertIs(self.judge("", "", 0, "ab" * 4), True)
        self.assertIs(self.judge("ab" * 2, "", 7, "ab" * 2), True)
        self.assertIs(self.judge("b", "b", 10 ** 40, "ab" * 4), False)

    def test_a_ring_that_does_not_lead_back(self):
        for times in (0, 1, 10):
            self.assertIs(self.judge("ab" * 4, "a", times, ""), False)
            self.assertIs(self.judge("", "ab", times, "ab" * 20), False)
            self.assertIs(self.judge("ab" * 4, "ba", times, ""), False)
            self.assertIs(self.judge("aba", "ba", times, "b" + "ab" * 20), True)

    def test_numbers_of_times(self):
        for times in (10 ** 6, 10 ** 30, 10 ** 400):
            self.assertIs(self.judge("ab", "ab", times, ""), True)
            self.assertIs(self.judge("ab", "aab", times, ""), False)
            self.assertIs(self.judge("aab", "aab", times, "b" * 10), False)
        for times in (-1, -10 ** 30, True, False, None, "3", [3], (3,), ""):
            self.assertIs(self.judge("ab", "ab", times, "ab" * 9), False)
            self.assertIs(self.judge("ab", "", times, "ab" * 9), False)
        self.assertIs(self.judge("ab", "ab", 1, "ab" * 9), True)
        self.assertIs(self.judge("ab", "ab", 0, "ab" * 9), True)

    def test_foreign_letters(self):
        good = ["ab", "ab", 3, "ab"]
        self.assertIs(self.judge(*good), True)
        for at in (0, 1, 3):
            for letter in ("c", " ", "\n", "A", "~"):
                for text in (letter, good[at] + letter, letter + good[at]):
                    for times in (0, 3):
                        self.assertIs(self.judge(*replaced(replaced(good, 2, times), at, text)), False)

    def test_letters_of_one_font_alone(self):
        claim = GapBound(Font({"a": 1, "b": 1}), Font({"a": 5, "c": 9}), Ratio(0), 0)
        self.assertIs(claim.judge(("fails", "a", "", 0, "")), True)
        for letter in "bc":
            self.assertIs(claim.judge(("fails", "a" + letter, "", 0, "")), False)

    def test_values_of_other_kinds(self):
        good = ["ab", "ab", 3, "ab"]
        for at in range(4):
            for value in (None, True, False, [], (), ["a"], ("a",), [["ab"]], 0 if at != 2 else "0", -1):
                self.assertIs(self.judge(*replaced(good, at, value)), False, (at, value))
        for value in spoilt_numbers(3) + spoilt_numbers(1) + spoilt_numbers(0):
            self.assertIs(self.judge("ab", "ab", value, "ab" * 9), False)

    def test_other_forms(self):
        good = ("fails", "ab", "ab", 3, "ab")
        self.assertIs(self.claim.judge(good), True)
        for value in (list(good), good[:4], good + ("",), ("holds",) + good[1:], (True,) + good[1:], (good,), [good]):
            self.assertIs(self.claim.judge(value), False)

    def test_a_true_claim_has_no_failing_certificate(self):
        claim = GapBound(self.first, self.second, Ratio(1, 2), 0)
        for text in texts("ab", 7):
            self.assertIs(claim.judge(("fails", text, "", 0, "")), False)
        self.assertIs(claim.judge(("fails", "ab", "ab", 10 ** 50, "")), False)

    def test_all_short_texts(self):
        chance = random.Random(33)
        for _ in range(10):
            first, second = (random_font(chance, "ab", chance.randrange(3)) for _ in range(2))
            rate, slack = Ratio(chance.randrange(-20, 20), chance.randrange(1, 5)), chance.randrange(-5, 60)
            claim = GapBound(first, second, rate, slack)
            for text in texts("ab", 6):
                cut = chance.randrange(len(text) + 1)
                expected = breaks(first, second, rate, slack, text)
                self.assertIs(claim.judge(("fails", text[:cut], "", chance.randrange(9), text[cut:])), expected)


class OddValuesTest(ProgramTest):
    def test_odd_values(self):
        claims = [GapBound(*pair(), Ratio(1, 2), 0), GapBound(*pair(), Ratio(1, 2), -1),
                  GapBound(Font({}), Font({}), Ratio(0), 0), GapBound(Font({"a": 1}), Font({"a": 1}), Ratio(0), 5)]
        for claim in claims:
            for value in ODD_VALUES:
                self.assertIs(claim.judge(value), False, value)
                self.assertIs(claim.judge(("holds", value)), False, value)
                self.assertIs(claim.judge(("fails", value, "", 0, "x")), False, value)
                if claim is not claims[2]:
                    self.assertIs(claim.judge(("holds", [value])), False, value)


if __name__ == "__main__":
    unittest.main()
