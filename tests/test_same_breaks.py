"""Points 30 and 34: claims that two fonts break lines alike."""

import itertools
import random
import unittest

from fontgap.breaking import break_lines
from fontgap.claims import Claim
from fontgap.errors import InvalidNumber
from fontgap.fonts import Font
from fontgap.joined import Joined
from fontgap.lineclaims import SameBreaks
from tests.odd import ODD_VALUES, replaced, spoilt_numbers
from tests.slow import slow_width, small_font, steps_of
from tests.support import ProgramTest


def pair(blank=1):
    return Font({"a": 2, "b": 3}, blank=blank), Font({"a": 2, "b": 3, "ab": 6}, blank=blank)


def word_texts(letters, most):
    """Return all texts of words with up to so many characters, shorter ones first, then in string order."""
    found = [""]
    for size in range(1, most + 1):
        for row in itertools.product(" " + "".join(sorted(letters)), repeat=size):
            text = "".join(row)
            if text.split(" ") == text.split():
                found.append(text)
    return found


def line_starts(font, text, measure):
    """Return for each word of a text but the first whether it begins a line."""
    starts = []
    line = None
    for word in text.split():
        size = slow_width(font, word)
        joins = line is not None and line + font.blank + size <= measure
        line = line + font.blank + size if joins else size
        starts.append(not joins)
    return starts


def first_unlike(first, second, measure, most):
    letters = set(first.letters) & set(second.letters)
    return next((text for text in word_texts(letters, most)
                 if line_starts(first, text, measure) != line_starts(second, text, measure)), None)


def proves(first, second, measure, nodes):
    """Tell whether nodes prove a claim, in the words of the document."""
    joined = Joined(first, second)
    steps = steps_of(joined)
    known = set(nodes)
    if len(known) < len(nodes) or (0, -1, 0, -1, 0) not in known:
        return False
    for state, *numbers in nodes:
        for _, after, *growths in steps[state]:
            words = [min(measure + 1, numbers[2 * side + 1] + growths[side]) for side in (0, 1)]
            if (after, numbers[0], words[0], numbers[2], words[1]) not in known:
                return False
        if state:
            joins, lines = [], []
            for side, blank in enumerate((first.blank, second.blank)):
                line = numbers[2 * side]
                word = numbers[2 * side + 1] + joined.finish(state)[side]
                joins.append(line != -1 and line + blank + word <= measure)
                lines.append(min(measure + 1, line + blank + word if joins[-1] else word))
            if joins[0] != joins[1] or (0, lines[0], 0, lines[1], 0) not in known:
                return False
    return True


class MakingTest(ProgramTest):
    def test_errors(self):
        for measure in (-1, True, False, None, "5", [5], (5,)):
            self.assert_refused(InvalidNumber(measure), SameBreaks, *pair(), measure)

    def test_describe(self):
        self.assertTrue(issubclass(SameBreaks, Claim))
        self.assertEqual(SameBreaks(*pair(), 5).describe(), "every text of ab: same breaks at 5")
        self.assertEqual(SameBreaks(Font({"a": 1}), Font({}), 0).describe(), "every text of : same breaks at 0")

    def test_arguments_by_name(self):
        first, second = pair()
        self.assertIs(SameBreaks(measure=7, second=second, first=first).holds(), True)


class DecideTest(ProgramTest):
    def check(self, first, second, measure, most):
        """Check what a claim decides against all texts up to a length; return the certificate."""
        claim = SameBreaks(first, second, measure)
        certificate = claim.decide()
        self.assertIs(claim.judge(certificate), True)
        self.assertIs(claim.holds(), certificate[0] == "holds")
        expected = first_unlike(first, second, measure, most)
        if certificate[0] == "fails":
            text = certificate[1]
            self.assertNotEqual(break_lines(first, text, measure), break_lines(second, text, measure))
            self.assertEqual(text if len(text) <= most else None, expected)
        else:
            self.assertIsNone(expected)
            self.assertTrue(proves(first, second, measure, certificate[1]))
        return certificate

    def test_two_fonts(self):
        first, second = pair()
        for measure in range(8):
            self.assertEqual(self.check(first, second, measure, 7)[0], "holds")
        self.assertEqual(self.check(first, second, 8, 7), ("fails", "a ab"))
        self.assertEqual(self.check(first, second, 9, 7), ("fails", "ab b"))
        self.assertEqual(self.check(first, second, 16, 7), ("fails", "a aabab"))

    def test_without_common_letters(self):
        self.assertEqual(self.check(Font({"a": 1}), Font({"b": 1}), 3, 3), ("holds", [(0, -1, 0, -1, 0)]))

    def test_a_font_and_itself(self):
        font = Font({"a": 2, "b": 1, "ab": 2, "aba": 4}, {("b", "ab"): 1}, blank=1)
        for measure in (0, 1, 4, 9):
            self.assertEqual(self.check(font, font, measure, 5)[0], "holds")

    def test_blanks_that_differ(self):
        first, second = Font({"a": 2}, blank=1), Font({"a": 2}, blank=2)
        self.assertEqual(self.check(first, second, 5, 7), ("fails", "a a"))
        self.assertEqual(self.check(first, second, 4, 7)[0], "holds")
        self.assertEqual(self.check(first, second, 8, 7), ("fails", "a a a"))

    def test_blanks_of_0_and_measures_of_0(self):
        first, second = Font({"a": 0, "b": 1}, blank=0), Font({"a": 0, "b": 2}, blank=0)
        self.assertEqual(self.check(first, second, 0, 5)[0], "holds")
        self.assertEqual(self.check(first, second, 1, 5), ("fails", "a b"))
        self.assertEqual(self.check(first, Font({"a": 0, "b": 1}, blank=1), 0, 5), ("fails", "a a"))
        self.assertEqual(self.check(first, Font({"a": 1, "b": 1}, blank=0), 0, 5), ("fails", "a a"))

    def test_the_end_of_a_word_has_a_width(self):
        # What is held back at the end of a word counts, for this word and for the line behind it.
        first = Font({"a": 2, "b": 2, "aab": 7}, blank=1)
        second = Font({"a": 2, "b": 2}, blank=1)
        for measure in range(12):
            self.check(first, second, measure, 7)

    def test_wide_words_stand_alone(self):
        first, second = Font({"a": 9, "b": 1}, blank=0), Font({"a": 50, "b": 1}, blank=0)
        self.assertEqual(self.check(first, second, 8, 6)[0], "holds")
        self.assertEqual(self.check(first, second, 10, 6), ("fails", "a b"))

    def test_small_fonts(self):
        chance = random.Random(34)
        ends = {"holds": 0, "fails": 0}
        for _ in range(250):
            letters = chance.choice(["a", "ab", "ab"])
            most = chance.choice([1, 2, 4])
            first = small_font(chance, letters, chance.randrange(3), most)
            second = small_font(chance, letters, chance.randrange(3), most)
            if chance.randrange(2):
                second = first.copy()
                second.set_advance(chance.choice(second.glyphs()), 2 * most)
            if len(Joined(first, second)) <= 12:
                certificate = self.check(first, second, chance.randrange(7), 6)
                ends[certificate[0]] += 1
        self.assertGreater(min(ends.values()), 40)

    def test_claims_keep_copies_of_their_fonts(self):
        first, second = pair()
        claim = SameBreaks(first, second, 8)
        holding = SameBreaks(first, second, 7)
        certificate = holding.decide()
        second.apply([("drop", "ab"), ("blank", 0), ("advance", "c", 5)])
        first.apply([("blank", 77), ("advance", "c", 1)])
        self.assertEqual(claim.decide(), ("fails", "a ab"))
        self.assertIs(claim.judge(("fails", "a ab")), True)
        self.assertIs(claim.judge(("fails", "a a")), False)
        self.assertEqual(holding.decide(), certificate)
        self.assertIs(holding.judge(certificate), True)
        self.assertEqual(claim.describe(), "every text of ab: same breaks at 8")

    def test_returned_certificates_may_be_changed(self):
        claim = SameBreaks(*pair(), 7)
        expected = list(claim.decide()[1])
        claim.decide()[1].clear()
        self.assertEqual(claim.decide()[1], expected)
        self.assertIs(claim.judge(claim.decide()), True)


class JudgeHoldsTest(ProgramTest):
    def setUp(self):
        self.fonts = pair()
        self.claim = SameBreaks(*self.fonts, 4)
        self.nodes = self.claim.decide()[1]

    def judge(self, nodes):
        found = self.claim.judge(("holds", nodes))
        self.assertIs(found, proves(*self.fonts, 4, nodes))
        return found

    def closed_with(self, node):
        """Return the nodes and one more with all that letters and blanks lead to from it."""
        joined = Joined(*self.fonts)
        nodes = self.nodes + [node]
        for state, *numbers in nodes:
            found = []
            for letter in joined.letters:
                after, first, second = joined.step(state, letter)
                found.append((after, numbers[0], min(5, numbers[1] + first), numbers[2], min(5, numbers[3] + second)))
            if state:
                first, second = joined.finish(state)
                lines = []
                blank = self.fonts[0].blank
                for line, word in ((numbers[0], numbers[1] + first), (numbers[2], numbers[3] + second)):
                    lines.append(line + blank + word if line != -1 and line + blank + word <= 4 else min(5, word))
                found.append((0, lines[0], 0, lines[1], 0))
            nodes.extend([node for node in found if node not in nodes])
        return nodes

    def test_any_order(self):
        self.assertIs(self.judge(self.nodes), True)
        self.assertIs(self.judge(self.nodes[::-1]), True)
        self.assertIs(self.judge(sorted(self.nodes)), True)

    def test_a_node_twice_or_missing(self):
        for at, node in enumerate(self.nodes):
            self.assertIs(self.judge(self.nodes + [node]), False)
            self.assertIs(self.judge(self.nodes[:at] + self.nodes[at + 1:]), False)
        self.assertIs(self.judge([]), False)

    def test_an_unlike_node(self):
        # With lines of 1 and 2 the word "a" joins in the first font only.
        nodes = self.closed_with((0, 1, 0, 2, 0))
        self.assertIs(self.judge(nodes), False)
        fonts = pair()
        claim = SameBreaks(*fonts, 8)
        nodes = SameBreaks(fonts[0], fonts[0], 8).decide()[1]
        self.assertIs(claim.judge(("holds", nodes)), False)

    def test_nodes_of_the_state_0_with_words(self):
        for node in ((0, 3, 5, 3, 5), (0, -1, 1, -1, 1), (0, 5, 3, 5, 3), (0, 2, 5, 3, 5)):
            nodes = self.closed_with(node)
            self.assertGreater(len(nodes), len(self.nodes))
            self.assertIs(self.judge(nodes), True)
            self.assertIs(self.judge(nodes[:-1]), False)
        # The words of such a node count for the letters behind it.
        self.assertIs(self.judge(self.closed_with((0, 1, 0, 1, 1))), False)

    def test_nodes_to_which_no_text_leads(self):
        for node in ((1, -1, 5, -1, 5), (0, -1, 0, 5, 0), (0, 3, 0, -1, 0)):
            nodes = self.closed_with(node)
            self.assertIs(self.judge(nodes), True, node)
        # Only one of the lines is -1 here, so that the word of the other font alone joins its line.
        self.assertIs(self.judge(self.closed_with((0, 0, 0, -1, 0))), False)
        # From here the lines come to be 0 and 2.
        self.assertIs(self.judge(self.closed_with((6, -1, 0, -1, 0))), False)

    def test_nodes_at_the_edge_and_beyond(self):
        for at, low, high in ((0, 0, 6), (1, -1, 5), (2, 0, 5), (3, -1, 5), (4, 0, 5)):
            for value in (low - 1, high + 1, -10 ** 30, 10 ** 30):
                node = replaced((1, 3, 5, 3, 5), at, value)
                self.assertIs(self.claim.judge(("holds", self.nodes + [node])), False)
        # Also where the nodes would be closed and none of them unlike: no word joins a line behind this blank.
        self.fonts = pair(9)
        self.claim = SameBreaks(*self.fonts, 4)
        self.nodes = self.claim.decide()[1]
        self.assertIs(self.judge(self.closed_with((1, 5, 5, 5, 5))), True)
        for at, value in ((1, -2), (1, 6), (2, -1), (2, 6), (3, -2), (3, 6), (4, -1), (4, 6)):
            nodes = self.closed_with(replaced((1, 5, 5, 5, 5), at, value))
            self.assertIs(self.claim.judge(("holds", nodes)), False)

    def test_values_of_other_kinds(self):
        for at, node in enumerate(self.nodes):
            for place in range(5):
                for value in spoilt_numbers(node[place]):
                    spoilt = replaced(self.nodes, at, replaced(node, place, value))
                    self.assertIs(self.claim.judge(("holds", spoilt)), False, spoilt[at])
            for value in (list(node), node[:4], node + (0,), None, True, 0, "", "abcde", (), [], (node,), [node]):
                self.assertIs(self.claim.judge(("holds", replaced(self.nodes, at, value))), False)

    def test_other_forms(self):
        for value in (tuple(self.nodes), None, [self.nodes], 0, "nodes"):
            self.assertIs(self.claim.judge(("holds", value)), False)
        self.assertIs(self.claim.judge(["holds", self.nodes]), False)
        self.assertIs(self.claim.judge(("holds", self.nodes, None)), False)
        self.assertIs(self.claim.judge(("fails", self.nodes)), False)
        self.assertIs(SameBreaks(*self.fonts, 5).judge(("holds", self.nodes)), False)
        self.assertIs(SameBreaks(pair(0)[0], pair(1)[1], 4).judge(("holds", self.nodes)), False)

    def test_random_changes(self):
        chance = random.Random(35)
        verdicts = [0, 0]
        for _ in range(60):
            self.fonts = tuple(small_font(chance, "a", chance.randrange(2), 3) for _ in range(2))
            self.claim = SameBreaks(*self.fonts, 4)
            certificate = SameBreaks(self.fonts[chance.randrange(2)], self.fonts[1], 4).decide()
            if certificate[0] == "holds":
                states = range(len(Joined(*self.fonts)))
                nodes = [node for node in certificate[1] if node[0] in states]
                verdicts[self.judge(nodes)] += 1
                for at in range(len(nodes)):
                    place = chance.randrange(1, 5)
                    value = nodes[at][place] + chance.choice([-1, 1])
                    if (-1 if place in (1, 3) else 0) <= value <= 5:
                        verdicts[self.judge(replaced(nodes, at, replaced(nodes[at], place, value)))] += 1
        self.assertGreater(min(verdicts), 10)


class JudgeFailsTest(ProgramTest):
    def setUp(self):
        self.fonts = pair()
        self.claim = SameBreaks(*self.fonts, 8)

    def test_all_short_texts(self):
        for text in word_texts("ab", 6):
            expected = line_starts(self.fonts[0], text, 8) != line_starts(self.fonts[1], text, 8)
            self.assertIs(self.claim.judge(("fails", text)), expected, text)

    def test_blanks_in_wrong_places_and_foreign_letters(self):
        self.assertIs(self.claim.judge(("fails", "a ab")), True)
        for text in ("a ab ", " a ab", "a  ab", "a ab  a", " ", "", "a ab c", "c a ab", "a\nab", "a ab\n", "A ab", "a abC",
                     "a ab ~"):
            self.assertIs(self.claim.judge(("fails", text)), False, text)

    def test_letters_of_one_font_alone(self):
        first = Font({"a": 2, "b": 3, "c": 1}, blank=1)
        second = Font({"a": 2, "b": 3, "ab": 6, "d": 1}, blank=1)
        claim = SameBreaks(first, second, 8)
        self.assertIs(claim.judge(("fails", "a ab a")), True)
        for letter in "cd":
            self.assertIs(claim.judge(("fails", "a ab " + letter)), False)

    def test_long_texts(self):
        text = " ".join(["bb"] * 20000)
        self.assertIs(self.claim.judge(("fails", text)), False)
        self.assertIs(self.claim.judge(("fails", text + " a ab")), True)

    def test_spoilt_values(self):
        for text in (["a ab"], ("a ab",), ["a", "ab"], None, True, False, 0, [], ()):
            self.assertIs(self.claim.judge(("fails", text)), False)
        for value in (["fails", "a ab"], ("fails", "a ab", ""), ("fails",), ("holds", "a ab"), (None, "a ab"), "a ab",
                      ("fails", "a ab", "", 0, "")):
            self.assertIs(self.claim.judge(value), False)


class OddValuesTest(ProgramTest):
    def test_odd_values(self):
        empty = SameBreaks(Font({}), Font({}), 3)
        for claim in (SameBreaks(*pair(), 8), SameBreaks(*pair(), 4), SameBreaks(*pair(), 0), empty):
            for value in ODD_VALUES:
                self.assertIs(claim.judge(value), False, value)
                self.assertIs(claim.judge(("holds", value)), False, value)
                self.assertIs(claim.judge(("holds", [value])), False, value)
                expected = claim is empty and value == 0 and value is not False
                self.assertIs(claim.judge(("holds", [(value, -1, 0, -1, 0)])), expected, value)
                self.assertIs(claim.judge(("holds", [(0, -1, value, -1, value)])), expected, value)


if __name__ == "__main__":
    unittest.main()
