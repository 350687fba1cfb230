"""Several steps at once and taking back: points 11 and 12."""

import itertools
import unittest

from fontgap.errors import (DeedRefused, InUse, InvalidGlyph, InvalidNumber, NothingToUndo, Overlap, TooMany,
                            UnknownGlyph)
from fontgap.fonts import Font
from tests.support import ProgramTest, state

MALFORMED = [
    None, True, 0, "blank", "drop", b"drop", [], {}, ["blank", 3], ["drop", "f"], ["advance", "q", 3],
    (), ("blank",), ("drop",), ("advance",), ("kern",), ("advance", "q"), ("kern", "f", "f"),
    ("blank", 3, 4), ("drop", "fi", "f"), ("advance", "q", 3, 4), ("kern", "f", "f", 3, 4),
    ("Blank", 3), ("BLANK", 3), ("", 3), ("undo",), ("copy",), ("advances", "q", 3), ("set_advance", "q", 3),
    (None, 3), (3, "blank"), (["drop"], "fi"), (("drop",), "fi"), ("drop ", "fi"), (True, "fi"), ({}, 3),
]


def example():
    return Font({"f": 300, "i": 200, "fi": 450}, {("f", "f"): -20})


class StepsTest(ProgramTest):
    def assert_deed_refused(self, font, deeds, index, cause):
        """Check that a list of deeds is refused at an index, and that the font is as it was."""
        before, changes, listed = state(font), font.changes, list(deeds)
        error = self.assert_refused(DeedRefused(index), font.apply, deeds)
        self.assertEqual(state(font), before)
        self.assertEqual(font.changes, changes)
        self.assertEqual(deeds, listed)
        if cause is None:
            self.assertIsNone(error.__cause__)
        else:
            self.assert_same_error(error.__cause__, cause)

    def assert_advances_refused(self, font, error, advances):
        before, changes = state(font), font.changes
        self.assert_refused(error, font.set_advances, **advances)
        self.assertEqual(state(font), before)
        self.assertEqual(font.changes, changes)


class SetAdvancesTest(StepsTest):
    def test_letters_come_before_ligatures(self):
        for order in itertools.permutations([("fi", 450), ("f", 300), ("i", 200), ("ffi", 700)]):
            font = Font({})
            self.assertIsNone(font.set_advances(**dict(order)))
            self.assertEqual(font, Font({"f": 300, "i": 200, "fi": 450, "ffi": 700}))
            self.assertEqual(font.changes, 1)
            font.undo()
            self.assertEqual(font, Font({}))

    def test_it_changes_and_adds(self):
        font = example()
        font.set_advances(fi=1, z=2, f=30)
        self.assertEqual(state(font), ({"f": 30, "i": 200, "z": 2, "fi": 1}, [("f", "f", -20)], 250))

    def test_the_error_is_that_of_the_first_refused_step_in_font_order(self):
        for order in itertools.permutations([("z", 1), ("fi", -1), ("zz", -2), ("zzzzzzz", 5)]):
            self.assert_advances_refused(example(), InvalidNumber(-1), dict(order))
        for order in itertools.permutations([("z", 1), ("f", 19), ("i", True)]):
            self.assert_advances_refused(example(), Overlap("f", "f"), dict(order))
        for order in itertools.permutations([("z", 1), ("zq", 5), ("abc", 5)]):
            self.assert_advances_refused(example(), UnknownGlyph("q"), dict(order))
        for order in itertools.permutations([("z", 1), ("Z", 5), ("", 5)]):
            self.assert_advances_refused(example(), InvalidGlyph(""), dict(order))

    def test_each_step_is_checked_by_itself(self):
        font = Font({"a": 50, "b": 60}, {("a", "b"): -40})
        self.assert_advances_refused(font, Overlap("a", "b"), {"b": 39, "c": 1})
        self.assert_advances_refused(font, Overlap("a", "b"), {"a": 90, "b": 39})
        font.set_advances(a=40, b=40)
        self.assertEqual((font["a"], font["b"]), (40, 40))

    def test_too_many_at_once(self):
        font = Font.even("abcdefg", 9)
        pairs = [left + right for left in "abcdefg" for right in "abcdefg"]
        self.assert_advances_refused(font, TooMany(40), {glyph: 1 for glyph in pairs[:41]})
        font.set_advances(**{glyph: 1 for glyph in pairs[:40]})
        self.assertEqual(len(font.ligatures), 40)
        self.assert_advances_refused(font, TooMany(40), {"aa": 2, "gg": 3})
        font.set_advances(aa=2, ab=3)
        self.assertEqual((font["aa"], font["ab"]), (2, 3))

    def test_without_advances_it_is_no_change(self):
        font = example()
        self.assertIsNone(font.set_advances())
        self.assertIsNone(font.set_advances(**{}))
        self.assertEqual((font, font.changes), (example(), 0))

    def test_a_glyph_may_be_called_self(self):
        font = Font.even("self", 9)
        font.set_advances(self=20, s=8)
        self.assertEqual((font["self"], font["s"]), (20, 8))

    def test_advances_are_passed_by_keyword(self):
        self.assertRaises(TypeError, example().set_advances, {"f": 300})


class ApplyTest(StepsTest):
    def test_each_kind_of_deed(self):
        font = example()
        self.assertIsNone(font.apply([("advance", "f", 310), ("kern", "f", "i", -5), ("blank", 7), ("drop", "fi"),
                                      ("kern", "f", "f", 0), ("advance", "q", 4), ("advance", "iq", 6)]))
        self.assertEqual(state(font), ({"f": 310, "i": 200, "q": 4, "iq": 6}, [("f", "i", -5)], 7))
        self.assertEqual(font.changes, 1)
        font.undo()
        self.assertEqual(state(font), state(example()))
        self.assertEqual(font.changes, 0)

    def test_the_deeds_run_in_the_order_of_the_list(self):
        font = example()
        font.apply([("drop", "fi"), ("drop", "f"), ("advance", "f", 1), ("advance", "fi", 2), ("advance", "f", 3)])
        self.assertEqual(state(font), ({"f": 3, "i": 200, "fi": 2}, [], 250))
        self.assert_deed_refused(example(), [("advance", "fz", 2), ("advance", "z", 3)], 0, UnknownGlyph("z"))
        font = example()
        font.apply([("kern", "f", "f", 0), ("advance", "f", 0)])
        self.assertEqual(font["f"], 0)
        self.assert_deed_refused(example(), [("advance", "f", 0), ("kern", "f", "f", 0)], 0, Overlap("f", "f"))

    def test_refused_methods_are_the_cause(self):
        rows = [(("advance", "F", 1), InvalidGlyph("F")), (("advance", None, 1), InvalidGlyph(None)),
                (("advance", "f", -1), InvalidNumber(-1)), (("advance", "f", True), InvalidNumber(True)),
                (("advance", "fz", 1), UnknownGlyph("z")), (("advance", "f", 19), Overlap("f", "f")),
                (("kern", "z", "y", 1), UnknownGlyph("z")), (("kern", "f", [], 1), UnknownGlyph([])),
                (("kern", "f", "i", 1000001), InvalidNumber(1000001)), (("kern", "i", "f", -201), Overlap("i", "f")),
                (("drop", "z"), UnknownGlyph("z")), (("drop", 3), UnknownGlyph(3)), (("drop", "f"), InUse("fi")),
                (("blank", -1), InvalidNumber(-1)), (("blank", None), InvalidNumber(None))]
        for deed, cause in rows:
            self.assert_deed_refused(example(), [deed], 0, cause)
            self.assert_deed_refused(example(), [("blank", 3), ("drop", "fi"), ("advance", "fi", 9), deed], 3, cause)
            self.assert_deed_refused(example(), [("kern", "f", "i", 4), deed, ("blank", 3), None], 1, cause)

    def test_too_many_ligatures_are_the_cause(self):
        deeds = [("advance", letter, 9) for letter in "abcdefg"]
        deeds = deeds + [("advance", left + right, 9) for left in "abcdefg" for right in "abcdefg"]
        self.assert_deed_refused(Font({}), deeds[:48], 47, TooMany(40))
        font = Font({})
        font.apply(deeds[:47])
        self.assertEqual((len(font), font.changes), (47, 1))

    def test_malformed_deeds_at_each_place(self):
        good = [("blank", 3), ("advance", "q", 4), ("kern", "q", "q", -4), ("drop", "fi")]
        for deed in MALFORMED:
            for place in range(len(good) + 1):
                self.assert_deed_refused(example(), good[:place] + [deed] + good[place:], place, None)

    def test_a_malformed_deed_is_refused_when_its_turn_comes(self):
        self.assert_deed_refused(example(), [("blank", 3), ("drop", "f"), None], 1, InUse("fi"))
        self.assert_deed_refused(example(), [("blank", 3), None, ("drop", "f")], 1, None)
        self.assert_deed_refused(example(), [None, None], 0, None)

    def test_a_malformed_deed_has_no_hidden_error(self):
        with self.assertRaises(DeedRefused) as caught:
            example().apply([("drop",)])
        self.assertIsNone(caught.exception.__context__)

    def test_an_empty_list_is_no_change(self):
        font = example()
        self.assertIsNone(font.apply([]))
        self.assertEqual((font, font.changes), (example(), 0))

    def test_a_refusal_keeps_earlier_changes(self):
        font = example()
        font.set_blank(1)
        font.set_blank(2)
        self.assert_deed_refused(font, [("blank", 3), ("blank", 4), ("blank", -1)], 2, InvalidNumber(-1))
        font.undo()
        self.assertEqual(font.blank, 1)
        font.undo()
        self.assertEqual(font.blank, 250)

    def test_dropped_kerns_come_back(self):
        font = Font({"a": 5, "b": 6}, {("a", "b"): -1, ("b", "a"): 2, ("a", "a"): 3})
        self.assert_deed_refused(font, [("kern", "a", "b", 4), ("drop", "a"), ("advance", "a", 9), ("drop", "x")], 3,
                                 UnknownGlyph("x"))


class UndoTest(StepsTest):
    def test_each_successful_call_is_one_change(self):
        font = example()
        calls = [lambda: font.set_advance("q", 5), lambda: font.__setitem__("q", 6), lambda: font.set_kern("q", "q", 1),
                 lambda: font.set_kern("q", "q", 0), lambda: font.drop("q"), lambda: font.set_blank(7),
                 lambda: setattr(font, "blank", 8), lambda: font.set_advances(a=1, b=2, ab=3),
                 lambda: font.apply([("blank", 1), ("drop", "ab"), ("kern", "a", "b", 3)])]
        states = []
        for number, call in enumerate(calls):
            self.assertEqual(font.changes, number)
            states.append(state(font))
            call()
        self.assertEqual(font.changes, len(calls))
        while states:
            self.assertIsNone(font.undo())
            self.assertEqual(state(font), states.pop())
            self.assertEqual(font.changes, len(states))
        self.assert_refused(NothingToUndo(), font.undo)

    def test_changes_that_leave_the_font_the_same(self):
        font = example()
        font.set_advance("f", 300)
        font["i"] = 200
        font.set_kern("f", "f", -20)
        font.set_kern("i", "i", 0)
        font.set_blank(250)
        font.blank = 250
        font.set_advances(f=300)
        font.apply([("blank", 250)])
        self.assertEqual((font, font.changes), (example(), 8))
        for left in range(7, -1, -1):
            font.undo()
            self.assertEqual((font, font.changes), (example(), left))

    def test_refused_calls_are_no_changes(self):
        font = example()
        for call in [lambda: font.set_advance("f", 1), lambda: font.set_kern("f", "f", -301), lambda: font.drop("f"),
                     lambda: font.set_blank(-1), lambda: font.set_advances(q=1, f=1),
                     lambda: font.apply([("blank", 1), None]), lambda: font.__setitem__("F", 1)]:
            self.assertRaises(ValueError, call)
            self.assertEqual((font, font.changes), (example(), 0))
            self.assert_refused(NothingToUndo(), font.undo)

    def test_reading_is_no_change(self):
        font = example()
        font.glyphs()
        font.kerns()
        font.copy()
        self.assertEqual((font["f"], font.kern_of("f", "f"), font.blank, len(font)), (300, -20, 250, 3))
        self.assertEqual(font.changes, 0)

    def test_only_fifty_changes_are_remembered(self):
        font = Font({}, blank=0)
        for blank in range(1, 61):
            font.set_blank(blank)
            self.assertEqual(font.changes, min(blank, 50))
        for blank in range(59, 9, -1):
            font.undo()
            self.assertEqual((font.blank, font.changes), (blank, blank - 10))
        self.assert_refused(NothingToUndo(), font.undo)
        self.assertEqual((font.blank, font.changes), (10, 0))

    def test_exactly_fifty_changes(self):
        font = Font({}, blank=0)
        for blank in range(1, 51):
            font.set_blank(blank)
        for _ in range(50):
            font.undo()
        self.assertEqual((font.blank, font.changes), (0, 0))

    def test_one_long_list_of_deeds_is_one_change(self):
        font = Font({}, blank=0)
        font.apply([("blank", blank) for blank in range(1, 200)])
        self.assertEqual((font.blank, font.changes), (199, 1))
        font.undo()
        self.assertEqual((font.blank, font.changes), (0, 0))

    def test_changes_after_taking_back(self):
        font = Font({}, blank=0)
        for blank in (1, 2, 3):
            font.set_blank(blank)
        font.undo()
        font.undo()
        font.set_blank(9)
        self.assertEqual(font.changes, 2)
        font.undo()
        self.assertEqual(font.blank, 1)
        font.undo()
        self.assertEqual(font.blank, 0)
        self.assert_refused(NothingToUndo(), font.undo)

    def test_a_new_font_has_nothing_to_take_back(self):
        for font in (Font({}), example(), Font.even("ab", 3), example().copy()):
            self.assert_refused(NothingToUndo(), font.undo)

    def test_a_dropped_glyph_comes_back_with_its_kerns(self):
        kerns = {("f", "f"): -20, ("f", "fi"): 1, ("fi", "f"): 2, ("fi", "fi"): 3, ("i", "i"): 4}
        font = Font({"f": 300, "i": 200, "fi": 450}, kerns)
        font.drop("fi")
        self.assertEqual(font.kerns(), [("f", "f", -20), ("i", "i", 4)])
        font.undo()
        self.assertEqual(font, Font({"f": 300, "i": 200, "fi": 450}, kerns))


if __name__ == "__main__":
    unittest.main()
