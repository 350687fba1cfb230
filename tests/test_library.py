"""Points 38 to 40: libraries."""

import random
import unittest

from fontgap.claims import GapBound, SameWidths
from fontgap.errors import (DeedRefused, FontError, InUse, InvalidGlyph, InvalidNumber, InvalidOptions, NameTaken,
                            NothingToUndo, UnknownGlyph, UnknownKind, UnknownName)
from fontgap.fonts import Font
from fontgap.library import Library
from fontgap.lineclaims import Fits, SameBreaks
from fontgap.ratios import Ratio
from tests.slow import small_font
from tests.support import ProgramTest, state


def pair():
    return Font({"a": 2, "b": 3}), Font({"a": 2, "b": 3, "ab": 6})


def two_fonts():
    library = Library()
    for name, font in zip(("one", "two"), pair()):
        library.put(name, font)
    return library


def all_of(library):
    """Return all that a library tells."""
    labels = [label for label, _ in library.report()]
    return (library.names, [state(library.font(name)) for name in library.names], library.report(),
            [library.certificate(label) for label in labels], library.decisions)


class SameLibraryTest(ProgramTest):
    def assert_nothing_changes(self, library, error, call, *args, **named):
        before = all_of(library)
        found = self.assert_refused(error, call, *args, **named)
        self.assertEqual(all_of(library), before)
        return found


class FontsTest(SameLibraryTest):
    def test_an_empty_library(self):
        library = Library()
        self.assertEqual(all_of(library), ([], [], [], [], 0))

    def test_put_and_font(self):
        library = two_fonts()
        library.put("", Font({"z": 1}, blank=9))
        self.assertEqual(library.names, ["", "one", "two"])
        self.assertEqual(library.font("two"), pair()[1])
        self.assertEqual(library.font("").blank, 9)

    def test_copies(self):
        library = Library()
        font = Font({"a": 2})
        font.set_advance("a", 3)
        self.assertIsNone(library.put("one", font))
        font.set_advance("a", 4)
        self.assertEqual(library.font("one"), Font({"a": 3}))
        self.assertEqual(library.font("one").changes, 0)
        self.assert_refused(NothingToUndo(), library.undo, "one")
        library.font("one").set_advance("a", 5)
        self.assertEqual(library.font("one"), Font({"a": 3}))
        library.edit("one", [("advance", "a", 6)])
        self.assertEqual((font["a"], font.changes), (4, 2))
        self.assertEqual(library.font("one").changes, 0)

    def test_names_that_are_taken(self):
        library = two_fonts()
        for name in ("one", "two"):
            self.assert_nothing_changes(library, NameTaken(name), library.put, name, Font({"x": 1}))

    def test_a_new_list_of_names(self):
        library = two_fonts()
        library.names.clear()
        library.report().append(1)
        self.assertEqual((library.names, library.report()), (["one", "two"], []))

    def test_drop(self):
        library = two_fonts()
        self.assertIsNone(library.drop("one"))
        self.assertEqual(library.names, ["two"])
        self.assert_nothing_changes(library, UnknownName("one"), library.drop, "one")
        library.put("one", Font({"a": 7}))
        self.assertEqual(library.font("one"), Font({"a": 7}))

    def test_a_font_in_use(self):
        library = two_fonts()
        library.put("w", Font({}))
        library.watch("w", "widths", "one", "one")
        library.watch("v", "widths", "two", "one")
        library.watch("", "widths", "two", "two")
        self.assert_nothing_changes(library, InUse("v"), library.drop, "one")
        self.assert_nothing_changes(library, InUse(""), library.drop, "two")
        library.drop("w")
        library.unwatch("v")
        self.assert_nothing_changes(library, InUse("w"), library.drop, "one")
        library.unwatch("w")
        library.drop("one")
        self.assertEqual(library.names, ["two"])

    def test_unknown_names(self):
        library = two_fonts()
        library.watch("w", "widths", "one", "two")
        for name in ("", "w", "One", "three"):
            for call in (library.font, library.drop, library.undo):
                self.assert_nothing_changes(library, UnknownName(name), call, name)
            for deeds in ([], [("drop", "x")], [("blank", 5)]):
                self.assert_nothing_changes(library, UnknownName(name), library.edit, name, deeds)

    def test_edit_and_undo(self):
        library = two_fonts()
        self.assertEqual(library.edit("one", [("blank", 5), ("advance", "c", 9)]), [])
        self.assertEqual(library.font("one"), Font({"a": 2, "b": 3, "c": 9}, blank=5))
        self.assertEqual(library.edit("one", []), [])
        self.assertEqual(library.undo("one"), [])
        self.assertEqual(library.font("one"), pair()[0])
        self.assert_nothing_changes(library, NothingToUndo(), library.undo, "one")

    def test_refused_deeds(self):
        library = two_fonts()
        library.watch("w", "widths", "one", "two")
        error = self.assert_nothing_changes(library, DeedRefused(1), library.edit, "one",
                                            [("advance", "a", 9), ("drop", "x")])
        self.assert_same_error(error.__cause__, UnknownGlyph("x"))
        error = self.assert_nothing_changes(library, DeedRefused(0), library.edit, "two", [("advance", "A", 9)])
        self.assert_same_error(error.__cause__, InvalidGlyph("A"))
        error = self.assert_nothing_changes(library, DeedRefused(0), library.edit, "two", ["drop"])
        self.assertIsNone(error.__cause__)

    def test_only_fifty_changes_are_remembered(self):
        library = two_fonts()
        for advance in range(60):
            library.edit("one", [("advance", "a", advance)])
        for _ in range(50):
            library.undo("one")
        self.assertEqual(library.font("one")["a"], 9)
        self.assert_nothing_changes(library, NothingToUndo(), library.undo, "one")

    def test_the_deeds_are_not_changed(self):
        library = two_fonts()
        deeds = [("advance", "a", 9), ("blank", 1)]
        library.edit("one", deeds)
        self.assertEqual(deeds, [("advance", "a", 9), ("blank", 1)])


class WatchesTest(SameLibraryTest):
    def test_example(self):
        library = two_fonts()
        self.assertIs(library.watch("w", "widths", "one", "two"), False)
        self.assertEqual(library.edit("two", [("advance", "ab", 5)]), ["w"])
        self.assertEqual(library.report(), [("w", True)])

    def test_each_kind(self):
        library = two_fonts()
        first, second = pair()
        self.assertIs(library.watch("b", "bound", "one", "two", rate=Ratio(1, 2), slack=0), True)
        self.assertIs(library.watch("c", "bound", "one", "two", slack=-1, rate=Ratio(1, 2)), False)
        self.assertIs(library.watch("w", "widths", "one", "two"), False)
        self.assertIs(library.watch("f", "fits", "one", "two", measure=5, widening=1), True)
        self.assertIs(library.watch("g", "fits", "one", "two", measure=5, widening=0), False)
        self.assertIs(library.watch("k", "breaks", "one", "two", measure=3), True)
        self.assertEqual(library.report(), [("b", True), ("c", False), ("f", True), ("g", False), ("k", True),
                                            ("w", False)])
        self.assertEqual(library.certificate("b"), GapBound(first, second, Ratio(1, 2), 0).decide())
        self.assertEqual(library.certificate("w"), SameWidths(first, second).decide())
        self.assertEqual(library.certificate("g"), Fits(first, second, 5, 0).decide())
        self.assertEqual(library.certificate("k"), SameBreaks(first, second, 3).decide())
        self.assertEqual(library.decisions, 6)

    def test_the_order_of_the_fonts(self):
        library = two_fonts()
        self.assertIs(library.watch("f", "fits", "one", "two", measure=5, widening=0), False)
        self.assertIs(library.watch("g", "fits", "two", "one", measure=5, widening=0), True)

    def test_errors_in_their_order(self):
        library = two_fonts()
        library.watch("w", "widths", "one", "two")
        watch = library.watch
        self.assert_nothing_changes(library, NameTaken("w"), watch, "w", "x", "y", "z", t=1)
        self.assert_nothing_changes(library, UnknownKind("x"), watch, "v", "x", "y", "z", t=1)
        for kind in ("", "Bound", "width", "GapBound", "fits ", "w"):
            self.assert_nothing_changes(library, UnknownKind(kind), watch, "v", kind, "one", "two")
        self.assert_nothing_changes(library, UnknownName("y"), watch, "v", "fits", "y", "z", t=1)
        self.assert_nothing_changes(library, UnknownName("z"), watch, "v", "fits", "one", "z", t=1)
        self.assert_nothing_changes(library, UnknownName(""), watch, "v", "widths", "one", "")
        self.assert_nothing_changes(library, InvalidOptions("fits"), watch, "v", "fits", "one", "two", t=1)
        self.assert_nothing_changes(library, InvalidNumber(-1), watch, "v", "fits", "one", "two", measure=-1,
                                    widening=None)
        self.assert_nothing_changes(library, InvalidNumber(None), watch, "v", "fits", "one", "two", measure=1,
                                    widening=None)
        self.assert_nothing_changes(library, InvalidNumber(1), watch, "v", "bound", "one", "two", rate=1, slack=True)
        self.assert_nothing_changes(library, InvalidNumber(True), watch, "v", "bound", "one", "two", rate=Ratio(1),
                                    slack=True)
        self.assert_nothing_changes(library, InvalidNumber("5"), watch, "v", "breaks", "one", "two", measure="5")
        self.assertIs(watch("v", "breaks", "one", "two", measure=5), True)

    def test_options_of_other_names(self):
        library = two_fonts()
        options = {"bound": {"rate": Ratio(1), "slack": 0}, "widths": {}, "breaks": {"measure": 5},
                   "fits": {"measure": 5, "widening": 0}}
        for kind in options:
            for other in options:
                if other != kind:
                    self.assert_nothing_changes(library, InvalidOptions(kind), library.watch, "v", kind, "one", "two",
                                                **options[other])
            self.assert_nothing_changes(library, InvalidOptions(kind), library.watch, "v", kind, "one", "two",
                                        **options[kind], more=1)
            for name in options[kind]:
                rest = {key: value for key, value in options[kind].items() if key != name}
                self.assert_nothing_changes(library, InvalidOptions(kind), library.watch, "v", kind, "one", "two", **rest)
                self.assert_nothing_changes(library, InvalidOptions(kind), library.watch, "v", kind, "one", "two",
                                            **rest, Measure=5)

    def test_unwatch(self):
        library = two_fonts()
        library.watch("w", "widths", "one", "two")
        self.assertIsNone(library.unwatch("w"))
        self.assertEqual((library.report(), library.decisions), ([], 1))
        for label in ("w", "one", ""):
            self.assert_nothing_changes(library, UnknownName(label), library.unwatch, label)
            self.assert_nothing_changes(library, UnknownName(label), library.certificate, label)
        self.assertEqual(library.edit("two", [("advance", "ab", 5)]), [])
        self.assertIs(library.watch("w", "widths", "one", "two"), True)
        self.assertEqual(library.decisions, 2)

    def test_labels_may_be_names_of_fonts_and_empty(self):
        library = two_fonts()
        for label in ("two", "one", ""):
            self.assertIs(library.watch(label, "widths", "one", "two"), False)
        self.assertEqual(library.report(), [("", False), ("one", False), ("two", False)])
        self.assertEqual(library.edit("one", [("advance", "a", 4)]), [])
        self.assertEqual(library.edit("two", [("advance", "a", 4)]), [])
        self.assertEqual(library.edit("two", [("drop", "ab")]), ["", "one", "two"])

    def test_a_certificate_stays_while_it_is_valid(self):
        library = two_fonts()
        library.watch("w", "widths", "one", "two")
        self.assertEqual(library.certificate("w"), ("fails", "ab"))
        # Now "a" would be a shorter text, but the kept one still fails.
        library.edit("two", [("advance", "a", 7)])
        self.assertEqual((library.certificate("w"), library.decisions), (("fails", "ab"), 1))
        library.edit("two", [("advance", "ab", 5)])
        self.assertEqual((library.certificate("w"), library.decisions), (("fails", "a"), 2))
        library.undo("two")
        self.assertEqual((library.certificate("w"), library.decisions), (("fails", "a"), 2))
        library.edit("two", [])
        self.assertEqual((library.certificate("w"), library.decisions), (("fails", "a"), 2))

    def test_a_new_certificate_of_the_same_verdict(self):
        library = two_fonts()
        library.watch("b", "bound", "one", "two", rate=Ratio(1, 2), slack=5)
        self.assertEqual(library.edit("one", [("advance", "ba", 9)]), [])
        self.assertEqual((library.report(), library.decisions), ([("b", True)], 2))
        self.assertEqual(library.undo("one"), [])
        self.assertEqual((library.report(), library.decisions), ([("b", True)], 3))

    def test_one_font_with_itself(self):
        library = two_fonts()
        library.watch("w", "widths", "two", "two")
        library.watch("k", "breaks", "two", "two", measure=4)
        self.assertEqual(library.edit("two", [("advance", "a", 9)]), [])
        self.assertEqual(library.report(), [("k", True), ("w", True)])
        decisions = library.decisions
        library.edit("two", [("advance", "aab", 9)])
        self.assertEqual(library.decisions, decisions + 2)

    def test_a_change_of_another_font(self):
        library = two_fonts()
        library.put("three", Font({"a": 1}))
        library.watch("w", "widths", "one", "two")
        self.assertEqual(library.edit("three", [("advance", "a", 5)]), [])
        self.assertEqual(library.decisions, 1)

    def test_returned_certificates_may_be_changed(self):
        library = two_fonts()
        library.watch("b", "bound", "one", "two", rate=Ratio(1, 2), slack=0)
        library.watch("f", "fits", "one", "two", measure=5, widening=1)
        library.watch("k", "breaks", "one", "two", measure=3)
        library.watch("w", "widths", "one", "one")
        for label, _ in library.report():
            before = library.certificate(label)
            library.certificate(label)[1].clear()
            self.assertEqual(library.certificate(label), before)
            self.assertIs(type(library.certificate(label)), tuple)
        library.edit("one", [("blank", 250)])
        self.assertEqual(library.decisions, 4)

    def test_a_call_that_is_refused_does_not_count(self):
        library = two_fonts()
        library.watch("w", "widths", "one", "two")
        for call in (lambda: library.edit("one", [("drop", "x")]), lambda: library.undo("one"),
                     lambda: library.watch("w", "widths", "one", "two"),
                     lambda: library.watch("v", "fits", "one", "two", measure=5, widening=None)):
            with self.assertRaises(FontError):
                call()
        self.assertEqual(library.decisions, 1)


class SlowLibrary:
    """Keeps fonts and watches plainly and looks at all claims with all fonts."""

    MAKERS = {"bound": GapBound, "widths": SameWidths, "fits": Fits, "breaks": SameBreaks}

    def __init__(self):
        self.fonts = {}
        self.watches = {}
        self.decisions = 0

    def claim(self, label):
        kind, first, second, options, _ = self.watches[label]
        return self.MAKERS[kind](self.fonts[first], self.fonts[second], **options)

    def watch(self, label, kind, first, second, **options):
        self.watches[label] = [kind, first, second, options, None]
        self.watches[label][4] = self.claim(label).decide()
        self.decisions += 1
        return self.watches[label][4][0] == "holds"

    def change(self, name, call):
        """Change a font and return the labels of the verdicts that have changed, each claim being decided afresh."""
        before = dict(self.report())
        call(self.fonts[name])
        for label, watch in self.watches.items():
            claim = self.claim(label)
            if name in watch[1:3] and not claim.judge(watch[4]):
                self.decisions += 1
                watch[4] = claim.decide()
        return sorted(label for label, verdict in self.report() if verdict != before[label])

    def report(self):
        return [(label, self.claim(label).holds()) for label in sorted(self.watches)]

    def all(self):
        return (sorted(self.fonts), [state(self.fonts[name]) for name in sorted(self.fonts)], self.report(),
                [self.watches[label][4] for label in sorted(self.watches)], self.decisions)


class ModelTest(SameLibraryTest):
    def setUp(self):
        self.chance = random.Random(40)

    def deeds(self):
        chance = self.chance
        return [chance.choice([
            ("advance", chance.choice(["a", "b", "ab", "ba", "aa"]), chance.randrange(4)),
            ("kern", chance.choice("ab"), chance.choice(["a", "b", "ab"]), chance.randrange(-1, 3)),
            ("drop", chance.choice(["ab", "ba", "aa", "b"])),
            ("blank", chance.randrange(3))]) for _ in range(chance.choice([0, 1, 1, 2]))]

    def options(self, kind):
        chance = self.chance
        return {"bound": {"rate": Ratio(chance.randrange(-2, 4), chance.randrange(1, 3)), "slack": chance.randrange(4)},
                "widths": {}, "breaks": {"measure": chance.randrange(5)},
                "fits": {"measure": chance.randrange(6), "widening": chance.randrange(-1, 4)}}[kind]

    def act(self, library, slow):
        """Do the same random thing with a library and with its model."""
        chance = self.chance
        name, label = chance.choice(["x", "y", ""]), chance.choice(["w", "v", "x"])
        word = chance.choice(["put", "drop", "unwatch", "watch", "watch", "watch", "edit", "edit", "edit", "undo", "undo"])
        if word == "put":
            font = small_font(chance, "ab", 1, 3)
            if name in slow.fonts:
                return self.assert_nothing_changes(library, NameTaken(name), library.put, name, font)
            slow.fonts[name] = font.copy()
            return library.put(name, font)
        if word in ("unwatch", "watch") and (label in slow.watches) != (word == "unwatch"):
            if word == "unwatch":
                return self.assert_nothing_changes(library, UnknownName(label), library.unwatch, label)
            return self.assert_nothing_changes(library, NameTaken(label), library.watch, label, "widths", name, name)
        if word == "unwatch":
            del slow.watches[label]
            return library.unwatch(label)
        if name not in slow.fonts:
            call = {"drop": library.drop, "undo": library.undo, "edit": lambda name: library.edit(name, []),
                    "watch": lambda name: library.watch(label, "widths", name, "x")}[word]
            return self.assert_nothing_changes(library, UnknownName(name), call, name)
        return self.act_with(library, slow, word, name, label)

    def act_with(self, library, slow, word, name, label):
        users = sorted(label for label, watch in slow.watches.items() if name in watch[1:3])
        if word == "drop":
            if users:
                return self.assert_nothing_changes(library, InUse(users[0]), library.drop, name)
            del slow.fonts[name]
            return library.drop(name)
        if word == "watch":
            kind = self.chance.choice(["bound", "widths", "fits", "breaks"])
            other = self.chance.choice(sorted(slow.fonts))
            options = self.options(kind)
            return self.assertIs(library.watch(label, kind, name, other, **options),
                                 slow.watch(label, kind, name, other, **options))
        deeds = self.deeds()
        call, args = (library.edit, (name, deeds)) if word == "edit" else (library.undo, (name,))
        try:
            expected = slow.change(name, (lambda font: font.apply(deeds)) if word == "edit" else Font.undo)
        except FontError as error:
            return self.assert_nothing_changes(library, error, call, *args)
        return self.assertEqual(call(*args), expected)

    def test_long_rows_of_calls(self):
        for _ in range(12):
            library, slow = Library(), SlowLibrary()
            for name in ("x", "y"):
                font = small_font(self.chance, "ab", 1, 3)
                library.put(name, font)
                slow.fonts[name] = font.copy()
            for _ in range(80):
                self.act(library, slow)
                self.assertEqual(all_of(library), slow.all())


if __name__ == "__main__":
    unittest.main()
