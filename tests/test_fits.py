"""Points 30 and 33: claims that what fits in one font fits in the other."""

import random
import unittest

from fontgap.claims import Claim
from fontgap.errors import InvalidNumber
from fontgap.fit import least_widening
from fontgap.fonts import Font
from fontgap.joined import Joined
from fontgap.lineclaims import Fits
from tests.odd import ODD_VALUES, replaced, spoilt_numbers
from tests.slow import follow, random_font, slow_overflow, slow_width, small_font, steps_of, texts
from tests.support import ProgramTest


def pair():
    return Font({"a": 2, "b": 3}), Font({"a": 2, "b": 3, "ab": 6})


def proves(joined, measure, widening, rows):
    """Tell whether rows prove a claim, in the words of the document."""
    nodes = [(state, total) for state, total, _ in rows]
    bounds = {(state, total): bound for state, total, bound in rows}
    if len(set(nodes)) < len(nodes) or (0, 0) not in bounds or bounds[(0, 0)] is None or bounds[(0, 0)] < 0:
        return False
    steps = steps_of(joined)
    for state, total, bound in rows:
        first_end, second_end = joined.finish(state)
        is_end = total + first_end <= measure
        if is_end and (bound is None or bound + second_end > measure + widening):
            return False
        for _, after, first, second in steps[state]:
            if total + first > measure:
                continue
            if (after, total + first) not in bounds:
                return False
            later = bounds[(after, total + first)]
            if later is not None and (bound is None or later < bound + second):
                return False
    return True


def reached_nodes(joined, measure):
    """Return all nodes to which letters lead."""
    steps = steps_of(joined)
    found = [(0, 0)]
    for state, total in found:
        for _, after, first, _ in steps[state]:
            if total + first <= measure and (after, total + first) not in found:
                found.append((after, total + first))
    return found


class MakingTest(ProgramTest):
    def test_errors(self):
        first, second = pair()
        for measure in (-1, True, False, None, "5", [5], (5,)):
            self.assert_refused(InvalidNumber(measure), Fits, first, second, measure, 0)
            self.assert_refused(InvalidNumber(measure), Fits, first, second, measure, None)
        for widening in (True, False, None, "5", [5], (5,)):
            self.assert_refused(InvalidNumber(widening), Fits, first, second, 5, widening)
            self.assert_refused(InvalidNumber(widening), Fits, first, second, 0, widening)

    def test_describe(self):
        first, second = pair()
        self.assertTrue(issubclass(Fits, Claim))
        self.assertEqual(Fits(first, second, 5, 1).describe(),
                         "every text of ab: fits 5 and 1 more if it fits 5")
        self.assertEqual(Fits(first, Font({"b": 1}), 0, -12).describe(),
                         "every text of b: fits 0 and -12 more if it fits 0")
        zeros = "0" * 5000
        self.assertEqual(Fits(first, Font({"c": 1}), 10 ** 5000, -10 ** 5000).describe(),
                         f"every text of : fits 1{zeros} and -1{zeros} more if it fits 1{zeros}")

    def test_arguments_by_name(self):
        first, second = pair()
        self.assertIs(Fits(widening=1, measure=5, second=second, first=first).holds(), True)


class DecideTest(ProgramTest):
    def check(self, first, second, measure, widening, true):
        """Check what a claim decides and return the certificate."""
        claim = Fits(first, second, measure, widening)
        certificate = claim.decide()
        self.assertEqual(certificate[0], "holds" if true else "fails")
        self.assertIs(claim.holds(), true)
        self.assertIs(claim.judge(certificate), True)
        self.assertIs(type(certificate), tuple)
        joined = Joined(first, second)
        if true:
            self.assertEqual(len(certificate), 2)
            self.assertTrue(proves(joined, measure, widening, certificate[1]))
            return certificate
        _, prefix, ring, times, suffix = certificate
        self.assertIs(type(times), int)
        number, _, _ = joined.run(prefix)
        self.assertEqual(follow(joined, number, ring)[0], number)
        if times < 1000:
            text = prefix + ring * times + suffix
            self.assertLessEqual(slow_width(first, text), measure)
            self.assertGreater(slow_width(second, text), measure + widening)
        return certificate

    def test_example(self):
        first, second = pair()
        self.check(first, second, 5, 1, True)
        self.assertEqual(self.check(first, second, 5, 0, False), ("fails", "ab", "", 0, ""))
        self.check(second, first, 5, 0, True)

    def test_the_empty_text(self):
        first, second = pair()
        self.check(first, second, 0, 0, True)
        self.assertEqual(self.check(first, second, 0, -1, False), ("fails", "", "", 0, ""))
        self.assertEqual(self.check(first, second, 1, -2, False), ("fails", "", "", 0, ""))
        self.check(first, second, 1, -1, True)

    def test_without_common_letters(self):
        first, second = Font({"a": 1}), Font({"b": 1})
        self.assertEqual(self.check(first, second, 4, -4, True)[1], [(0, 0, 0)])
        self.check(first, second, 4, -5, False)

    def test_no_widening_is_enough(self):
        first, second = Font({"a": 2, "b": 0}), Font({"a": 2, "b": 1})
        for widening in (-5, 0, 5, 10 ** 30):
            certificate = self.check(first, second, 3, widening, False)
            self.assertEqual(certificate[2], "b")
        certificate = self.check(Font({"a": 4, "b": 3}, {("a", "b"): -3, ("b", "b"): -3}), Font.even("ab", 1), 3, 99, False)
        self.assertTrue(set(certificate[2]) == {"b"} and certificate[3] > 90)

    def test_a_ring_that_a_text_reaches_and_leaves(self):
        # Between the first "a" and the last letters, "b" has no width in the first font.
        first = Font({"a": 3, "b": 0, "c": 2, "abc": 9}, {("c", "a"): -1})
        second = Font({"a": 1, "b": 2, "c": 1})
        for measure in (0, 1, 4, 9):
            certificate = self.check(first, second, measure, 50, False)
            self.assertIs(Fits(first, second, measure, 10 ** 12).judge(certificate), False)

    def test_rings_that_are_left_by_several_letters(self):
        for first, second, measure in (
                ({"a": 5, "b": 5, "bbaa": 7, "bba": 0}, {"a": 0, "b": 1}, 0),
                ({"a": 5, "b": 5, "aaba": 0}, {"a": 0, "b": 0, "aa": 1, "bab": 2}, 0),
                ({"a": 5, "b": 5, "c": 5, "cac": 0, "bbaaa": 0}, {"a": 1, "b": 0, "c": 1, "acc": 1}, 0),
                ({"a": 5, "b": 0, "aabbb": 0, "aabb": 0}, {"a": 0, "b": 0, "ba": 1}, 5)):
            certificate = self.check(Font(first), Font(second), measure, 9, False)
            self.assertGreater(len(certificate[4]), 1)

    def test_letters_without_width_in_both_fonts(self):
        first, second = Font({"a": 2, "b": 0}), Font({"a": 3, "b": 0})
        self.check(first, second, 5, 1, True)
        self.check(first, second, 5, 0, False)

    def test_nodes_from_which_no_text_fits(self):
        # "a" is held back; its total is 0, but the text fits only with 5 more.
        first, second = Font({"a": 5, "b": 9, "ab": 9}), Font({"a": 100, "b": 100})
        certificate = self.check(first, second, 4, -4, True)
        self.assertEqual(sorted(certificate[1], key=repr), [(0, 0, 0), (1, 0, None)])

    def test_rows_for_all_nodes_that_letters_reach(self):
        chance = random.Random(33)
        for _ in range(40):
            first, second = (small_font(chance, "ab", chance.randrange(3), 4) for _ in range(2))
            claim = Fits(first, second, 6, 10 ** 6)
            if claim.holds():
                rows = claim.decide()[1]
                self.assertEqual(sorted(row[:2] for row in rows), sorted(reached_nodes(Joined(first, second), 6)))

    def test_against_slow_searches(self):
        chance = random.Random(34)
        ends = {"holds": 0, "fails": 0}
        for _ in range(120):
            most = chance.choice([1, 2, 4])
            letters = chance.choice(["a", "ab", "ab"])
            first = small_font(chance, letters, chance.randrange(3), most)
            second = small_font(chance, letters, chance.randrange(3), most)
            joined = Joined(first, second)
            if len(joined) > 12:
                continue
            measure = chance.randrange(5)
            needed = slow_overflow(joined, measure)
            for widening in (-measure - 2, -measure, -1, 0, 1, 7, 10 ** 9):
                true = needed is not None and needed <= widening
                ends[self.check(first, second, measure, widening, true)[0]] += 1
            if needed is not None:
                self.check(first, second, measure, needed, True)
                self.check(first, second, measure, needed - 1, False)
        self.assertGreater(min(ends.values()), 100)

    def test_at_the_least_widening(self):
        chance = random.Random(35)
        for _ in range(20):
            first, second = (random_font(chance, "abc", chance.randrange(4), 10) for _ in range(2))
            needed = least_widening(Joined(first, second), 500)
            if needed:
                self.check(first, second, 500, needed, True)
                self.check(first, second, 500, needed - 1, False)

    def test_all_short_texts(self):
        chance = random.Random(36)
        for _ in range(20):
            first, second = (random_font(chance, "ab", chance.randrange(3), 0) for _ in range(2))
            measure, widening = chance.randrange(300), chance.randrange(-20, 100)
            claim = Fits(first, second, measure, widening)
            rows = [(slow_width(first, text), slow_width(second, text)) for text in texts("ab", 6)]
            if any(row[0] <= measure and row[1] > measure + widening for row in rows):
                self.assertIs(claim.holds(), False)

    def test_claims_keep_copies_of_their_fonts(self):
        first, second = pair()
        claim = Fits(first, second, 5, 1)
        certificate = claim.decide()
        second.apply([("advance", "c", 5), ("advance", "a", 50), ("drop", "ab")])
        first.apply([("advance", "c", 1), ("drop", "b")])
        self.assertEqual(claim.decide(), certificate)
        self.assertIs(claim.judge(certificate), True)
        self.assertEqual(claim.describe(), "every text of ab: fits 5 and 1 more if it fits 5")

    def test_returned_certificates_may_be_changed(self):
        claim = Fits(*pair(), 5, 1)
        expected = list(claim.decide()[1])
        claim.decide()[1].clear()
        self.assertEqual(claim.decide()[1], expected)
        self.assertIs(claim.judge(claim.decide()), True)


class JudgeHoldsTest(ProgramTest):
    def setUp(self):
        self.first, self.second = pair()
        self.claim = Fits(self.first, self.second, 5, 1)
        self.joined = Joined(self.first, self.second)
        self.rows = self.claim.decide()[1]

    def judge(self, rows):
        found = self.claim.judge(("holds", rows))
        self.assertIs(found, proves(self.joined, 5, 1, rows))
        return found

    def test_any_order(self):
        self.assertIs(self.judge(self.rows[::-1]), True)
        self.assertIs(self.judge(sorted(self.rows)), True)

    def test_a_node_twice(self):
        for row in self.rows:
            self.assertIs(self.judge(self.rows + [row]), False)
            self.assertIs(self.judge([row[:2] + (10 ** 6,)] + self.rows), False)

    def test_a_missing_row(self):
        for at in range(len(self.rows)):
            self.assertIs(self.judge(self.rows[:at] + self.rows[at + 1:]), False)
        self.assertIs(self.judge([]), False)

    def test_one_number_changed(self):
        for at, (state, total, bound) in enumerate(self.rows):
            for change in (-10 ** 9, -3, -2, -1, 0, 1, 2, 3, 10 ** 9):
                self.judge(replaced(self.rows, at, (state, total, bound + change)))
                if 0 <= total + change <= 5:
                    self.judge(replaced(self.rows, at, (state, total + change, bound)))
                if 0 <= state + change < len(self.joined):
                    self.judge(replaced(self.rows, at, (state + change, total, bound)))
            self.judge(replaced(self.rows, at, (state, total, None)))

    def test_the_first_node(self):
        rows = [row for row in self.rows if row[:2] != (0, 0)]
        for bound in (None, -1, -10 ** 9):
            self.assertIs(self.judge(rows + [(0, 0, bound)]), False)
        self.assertIs(self.judge(rows + [(0, 0, 0)]), True)
        # With room for one more, the bound of the first node may be 1, as the others are great enough then.
        claim = Fits(self.first, self.first, 2, 4)
        for bound in range(7):
            rows = [(0, 0, bound), (1, 2, bound + 2)]
            self.assertIs(claim.judge(("holds", rows)), bound <= 4)

    def test_none_where_an_end_is(self):
        first, second = Font({"a": 5, "b": 9, "ab": 9}), Font({"a": 100, "b": 100})
        good = [(0, 0, 0), (1, 0, None)]
        claim = Fits(first, second, 4, -4)
        self.assertIs(claim.judge(("holds", good)), True)
        self.assertIs(claim.judge(("holds", [(0, 0, None), (1, 0, None)])), False)
        # From the measure 5 on the text "a" ends at the node.
        self.assertIs(Fits(first, second, 5, -4).judge(("holds", good)), False)
        # An integer may stand where no text fits, if it is great enough.
        for bound in (99, 100, 10 ** 9):
            self.assertIs(claim.judge(("holds", [(0, 0, 0), (1, 0, bound)])), bound >= 100)

    def test_none_that_leads_to_an_integer(self):
        first, second = Font({"a": 5, "b": 4, "ab": 5, "aab": 10}), Font({"a": 1, "b": 1})
        joined = Joined(first, second)
        for measure in range(5):
            claim = Fits(first, second, measure, 10)
            rows = claim.decide()[1]
            self.assertIs(claim.judge(("holds", rows)), True)
            lost = [at for at, row in enumerate(rows) if row[2] is None]
            for at in lost:
                spoilt = replaced(rows, at, rows[at][:2] + (50,))
                self.assertIs(claim.judge(("holds", spoilt)), proves(joined, measure, 10, spoilt))
        self.assertGreater(len(lost), 1)

    def test_rows_to_which_no_text_leads(self):
        self.assertNotIn((3, 1), [row[:2] for row in self.rows])
        steps = steps_of(self.joined)
        bounds = {row[:2]: row[2] for row in self.rows}
        more = {(3, 1): -50}
        for _ in range(20):
            for (state, total), bound in list(more.items()):
                for _, after, first, second in steps[state]:
                    node = (after, total + first)
                    if node[1] <= 5 and node not in bounds:
                        more[node] = max(bound + second, more.get(node, bound + second))
        rows = self.rows + [node + (bound,) for node, bound in more.items()]
        self.assertGreater(len(rows), len(self.rows) + 1)
        self.assertIs(self.judge(rows), True)
        self.assertIs(self.judge(rows[:-1]), False)
        self.assertIs(self.judge(replaced(rows, len(self.rows), (3, 1, 50))), False)

    def test_totals_and_states_out_of_range(self):
        for more in ((0, -1, 0), (0, 6, 0), (7, 0, 0), (-1, 0, 0), (0, 10 ** 30, 0), (10 ** 30, 0, 0), (6, 6, None)):
            self.assertIs(self.claim.judge(("holds", self.rows + [more])), False)
        # Also where all other rules hold.
        font = Font({"a": 1})
        claim = Fits(font, font, 1, 100)
        rows = [(0, 0, 0), (1, 1, 50), (1, 0, 40)]
        self.assertIs(claim.judge(("holds", rows)), True)
        for more in ((1, -1, 30), (0, -1, 30), (1, 2, 60)):
            self.assertIs(claim.judge(("holds", rows + [more])), False)
        # A node at the measure is one, though here no letter leads on from it.
        self.assertIs(self.judge(self.rows + [(2, 5, -5)]), (2, 5) not in [row[:2] for row in self.rows])

    def test_values_of_other_kinds(self):
        for at, row in enumerate(self.rows):
            for place in range(3):
                for value in spoilt_numbers(row[place]):
                    if value is not None or place < 2:
                        spoilt = replaced(self.rows, at, replaced(row, place, value))
                        self.assertIs(self.claim.judge(("holds", spoilt)), False, spoilt[at])
            for value in (list(row), row[:2], row + (0,), None, True, 0, "", "abc", (), [], (row,), [row]):
                self.assertIs(self.claim.judge(("holds", replaced(self.rows, at, value))), False, value)

    def test_other_forms(self):
        for value in (tuple(self.rows), None, self.rows[0], [self.rows], 0, "rows"):
            self.assertIs(self.claim.judge(("holds", value)), False)
        self.assertIs(self.claim.judge(["holds", self.rows]), False)
        self.assertIs(self.claim.judge(("holds", self.rows, None)), False)
        self.assertIs(self.claim.judge(("fails", self.rows)), False)
        self.assertIs(self.claim.judge(self.rows), False)

    def test_another_claim(self):
        self.assertIs(Fits(self.first, self.second, 5, 0).judge(("holds", self.rows)), False)
        self.assertIs(Fits(self.first, self.second, 6, 1).judge(("holds", self.rows)), False)
        self.assertIs(Fits(self.first, self.second, 4, 2).judge(("holds", self.rows)), False)
        self.assertIs(Fits(self.first, self.second, 5, 2).judge(("holds", self.rows)), True)

    def test_random_changes(self):
        chance = random.Random(37)
        verdicts = [0, 0]
        for _ in range(60):
            first, second = (small_font(chance, "ab", chance.randrange(3), 4) for _ in range(2))
            joined = Joined(first, second)
            measure, widening = chance.randrange(8), chance.randrange(12)
            claim = Fits(first, second, measure, widening)
            certificate = claim.decide()
            if certificate[0] == "holds":
                for _ in range(40):
                    rows = list(certificate[1])
                    for _ in range(chance.choice([1, 1, 2])):
                        at = chance.randrange(len(rows))
                        state, total, bound = rows[at]
                        rows[at] = (state, total, chance.choice([None, 0, 2, bound if bound is None else bound + 1,
                                                                 bound if bound is None else bound - 1]))
                    found = claim.judge(("holds", rows))
                    self.assertIs(found, proves(joined, measure, widening, rows))
                    verdicts[found] += 1
        self.assertGreater(min(verdicts), 50)


class JudgeFailsTest(ProgramTest):
    def setUp(self):
        self.first = Font({"a": 2, "b": 0, "c": 3})
        self.second = Font({"a": 2, "b": 1, "c": 1})
        self.claim = Fits(self.first, self.second, 5, 4)

    def judge(self, *values):
        return self.claim.judge(("fails", *values))

    def test_texts(self):
        self.assertIs(self.judge("ab", "b", 6, "a"), True)
        self.assertIs(self.judge("ab", "b", 4, "a"), False)
        self.assertIs(self.judge("ab", "b", 7, ""), True)
        self.assertIs(self.judge("ab", "b", 6, ""), False)
        self.assertIs(self.judge("abb", "", 0, "bbbbbba"), True)
        self.assertIs(self.judge("abb", "", 10 ** 9, "bbbbbb"), True)
        self.assertIs(self.judge("abb", "", 10 ** 9, "bbbbb"), False)
        self.assertIs(self.judge("", "", 0, "cabbbbbbb"), True)

    def test_texts_that_do_not_fit_the_first_font(self):
        self.assertIs(self.judge("aab", "b", 10, ""), True)
        self.assertIs(self.judge("aab", "b", 10, "a"), False)
        self.assertIs(self.judge("ab", "ab", 1, "bbbbbbbb"), True)
        self.assertIs(self.judge("ab", "ab", 2, "bbbbbbbb"), False)
        self.assertIs(self.judge("ab", "ab", 10 ** 30, "bbbbbbbb"), False)

    def test_a_ring_that_does_not_lead_back(self):
        for times in (0, 1, 9):
            self.assertIs(self.judge("a", "b", times, "bbbbbbbbb"), False)
            self.assertIs(self.judge("ab", "b", times, "bbbbbbbbb"), True)

    def test_numbers_of_times(self):
        for times in (10 ** 6, 10 ** 30, 10 ** 400):
            self.assertIs(self.judge("ab", "b", times, ""), True)
            self.assertIs(self.judge("a", "b", times, ""), False)
        for times in (-1, -10 ** 30, True, False, None, "3", [3], (3,), ""):
            self.assertIs(self.judge("ab", "b", times, "b" * 20), False)

    def test_spoilt_values(self):
        good = ["ab", "b", 7, "bc"]
        self.assertIs(self.judge(*good), True)
        for at in (0, 1, 3):
            for value in ("d", good[at] + " ", good[at] + "\n", None, True, 0, [good[at]], (good[at],), []):
                self.assertIs(self.judge(*replaced(good, at, value)), False)
                self.assertIs(self.judge(*replaced(replaced(good, 2, 0), at, value)), False)
        for value in (["fails"] + good, ("fails", *good[:3]), ("fails", *good, ""), ("holds", *good), (None, *good)):
            self.assertIs(self.claim.judge(value), False)


class OddValuesTest(ProgramTest):
    def test_odd_values(self):
        for claim in (Fits(*pair(), 5, 1), Fits(*pair(), 5, 0), Fits(*pair(), 0, 0)):
            for value in ODD_VALUES:
                self.assertIs(claim.judge(value), False, value)
                self.assertIs(claim.judge(("holds", value)), False, value)
                self.assertIs(claim.judge(("holds", [value])), False, value)
                self.assertIs(claim.judge(("holds", [(0, 0, value)])),
                              claim.describe().endswith("fits 0") and value == 0 and value is not False, value)
                self.assertIs(claim.judge(("holds", [(0, value, 0), (value, 0, 0)])), False, value)


if __name__ == "__main__":
    unittest.main()
