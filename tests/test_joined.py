"""Points 23 and 24: the joined reader."""

import random
import types
import unittest

from fontgap.errors import InvalidState, UnknownLetter
from fontgap.fonts import Font
from fontgap.joined import Joined
from fontgap.reader import Reader
from tests.slow import SlowReader, random_font, slow_width, texts
from tests.support import ProgramTest


def pair():
    return Font({"a": 2, "b": 3}), Font({"a": 2, "b": 3, "ab": 6})


def rows(joined):
    """Return all that a joined reader tells."""
    numbers = range(len(joined))
    return (joined.letters, [joined.state(number) for number in numbers], list(joined.edges()),
            [joined.finish(number) for number in numbers], [joined.shortest(number) for number in numbers])


class SlowJoined:
    """Finds the states from the words of the document, with whole texts."""

    def __init__(self, first, second):
        self.letters = sorted(set(first.letters) & set(second.letters))
        self.sides = [SlowReader(first), SlowReader(second)]
        self.fonts = [first, second]
        self.states = [("", "", "", "")]
        self.texts = [""]
        self.edges = []
        number = 0
        while number < len(self.states):
            for letter in self.letters:
                self.go(number, letter)
            number += 1

    def go(self, number, letter):
        text = self.texts[number] + letter
        state = self.sides[0].state(text) + self.sides[1].state(text)
        if state not in self.states:
            self.states.append(state)
            self.texts.append(text)
        growths = [side.total(text) - side.total(self.texts[number]) for side in self.sides]
        self.edges.append((number, letter, self.states.index(state), growths[0], growths[1]))

    def finishes(self):
        return [tuple(slow_width(font, text) - side.total(text) for font, side in zip(self.fonts, self.sides))
                for text in self.texts]


class StatesTest(ProgramTest):
    def test_example(self):
        joined = Joined(*pair())
        self.assertEqual(rows(joined), (
            ["a", "b"],
            [("", "", "", ""), ("a", "", "", "a"), ("b", "", "b", ""), ("a", "", "a", "a"), ("b", "", "ab", ""),
             ("a", "", "b", "a"), ("a", "", "ab", "a")],
            [(0, "a", 1, 2, 0), (0, "b", 2, 3, 3), (1, "a", 3, 2, 2), (1, "b", 4, 3, 6), (2, "a", 5, 2, 0),
             (2, "b", 2, 3, 3), (3, "a", 3, 2, 2), (3, "b", 4, 3, 6), (4, "a", 6, 2, 0), (4, "b", 2, 3, 3),
             (5, "a", 3, 2, 2), (5, "b", 4, 3, 6), (6, "a", 3, 2, 2), (6, "b", 4, 3, 6)],
            [(0, 0), (0, 2), (0, 0), (0, 2), (0, 0), (0, 2), (0, 2)],
            ["", "a", "b", "aa", "ab", "ba", "aba"]))

    def test_fonts_without_common_letters(self):
        for first, second in ((Font({"a": 1}), Font({"b": 1})), (Font({}), Font({"b": 1})), (Font({}), Font({}))):
            joined = Joined(first, second)
            self.assertEqual(rows(joined), ([], [("", "", "", "")], [], [(0, 0)], [""]))
            self.assertEqual(joined.run(""), (0, 0, 0))
            self.assertEqual(joined.widths(""), (0, 0))
            self.assert_refused(UnknownLetter("b", 0), joined.run, "b")
            self.assert_refused(UnknownLetter("b", 0), joined.step, 0, "b")

    def test_only_common_letters_are_read(self):
        first = Font({"a": 1, "b": 2, "c": 4}, {("a", "b"): 8})
        second = Font({"d": 1, "b": 3, "a": 5}, {("b", "a"): 20})
        joined = Joined(first, second)
        self.assertEqual(joined.letters, ["a", "b"])
        self.assertEqual([joined.state(number) for number in range(len(joined))],
                         [("", "", "", ""), ("a", "", "a", ""), ("b", "", "b", "")])
        self.assertEqual(joined.widths("abba"), (14, 36))
        for letter in "cd":
            self.assert_refused(UnknownLetter(letter, 2), joined.run, f"ab{letter}a")
            self.assert_refused(UnknownLetter(letter, 0), joined.step, 2, letter)

    def test_ligatures_with_letters_that_are_not_common_still_hold_letters_back(self):
        joined = Joined(Font({"a": 1, "x": 2, "ax": 9}), Font({"a": 5}))
        self.assertEqual([joined.state(number) for number in range(len(joined))],
                         [("", "", "", ""), ("", "a", "a", ""), ("a", "a", "a", "")])
        self.assertEqual(joined.step(0, "a"), (1, 0, 5))
        self.assertEqual(joined.step(2, "a"), (2, 1, 5))
        self.assertEqual(joined.finish(2), (1, 0))

    def test_a_font_joined_with_itself(self):
        _, font = pair()
        joined = Joined(font, font)
        self.assertEqual([joined.state(number) for number in range(len(joined))],
                         [("", "", "", ""), ("", "a", "", "a"), ("b", "", "b", ""), ("a", "a", "a", "a"),
                          ("ab", "", "ab", ""), ("b", "a", "b", "a"), ("ab", "a", "ab", "a")])
        for _, _, _, first_width, second_width in joined.edges():
            self.assertEqual(first_width, second_width)
        self.assertEqual(joined.widths("aabba"), (2 + 6 + 3 + 2,) * 2)

    def test_the_fonts_are_copied(self):
        first, second = pair()
        joined = Joined(first, second)
        expected = rows(joined)
        first.apply([("drop", "a"), ("advance", "b", 77)])
        second.apply([("advance", "aba", 1), ("advance", "c", 1)])
        self.assertEqual(rows(joined), expected)
        self.assertEqual(joined.widths("abab"), (10, 12))

    def test_the_fonts_are_not_changed(self):
        first, second = pair()
        Joined(first, second).run("abab")
        self.assertEqual((first, second), pair())
        self.assertEqual((first.changes, second.changes), (0, 0))

    def test_letters_are_a_new_list_at_each_reading(self):
        joined = Joined(*pair())
        joined.letters.append("x")
        self.assertEqual(joined.letters, ["a", "b"])

    def test_two_thousand_states(self):
        letters = "abcdefghijklmnopqrstuvwxyz"
        first = Font({letter: 10 for letter in letters})
        chains = {"".join(chr(97 + (start + step * size) % 26) for size in range(6)): 50
                  for start in range(10) for step in (1, 3, 5, 7)}
        second = Font({**{letter: 12 for letter in letters}, **chains})
        self.assertEqual(len(second.ligatures), 40)
        joined = Joined(first, second)
        self.assertGreater(len(joined), 2000)
        self.assertEqual(len(list(joined.edges())), 26 * len(joined))
        for number in range(0, len(joined), 97):
            self.assertEqual(joined.run(joined.shortest(number))[0], number)


class StepsTest(ProgramTest):
    def test_step(self):
        joined = Joined(*pair())
        self.assertEqual(joined.step(0, "a"), (1, 2, 0))
        self.assertEqual(joined.step(1, "b"), (4, 3, 6))
        self.assertEqual(joined.step(letter="a", number=6), (3, 2, 2))

    def test_state_numbers_out_of_range(self):
        joined = Joined(*pair())
        for number in (-1, -7, 7, 8, 10 ** 30, True, False, None, "0", (0,), [0]):
            self.assert_refused(InvalidState(number), joined.state, number)
            self.assert_refused(InvalidState(number), joined.step, number, "a")
            self.assert_refused(InvalidState(number), joined.step, number, "x")
            self.assert_refused(InvalidState(number), joined.finish, number)
            self.assert_refused(InvalidState(number), joined.shortest, number)

    def test_letters_that_are_not_common(self):
        joined = Joined(*pair())
        for letter in ("", "c", "ab", "aa", " ", "A", "\n", None, 0):
            self.assert_refused(UnknownLetter(letter, 0), joined.step, 0, letter)
            self.assert_refused(UnknownLetter(letter, 0), joined.step, 6, letter)

    def test_finish(self):
        joined = Joined(Font({"a": 1, "b": 2, "aab": 50}, {("a", "a"): 10}), Font({"a": 3, "b": 4}, {("a", "b"): -1}))
        number, _, _ = joined.run("aa")
        self.assertEqual(joined.state(number), ("", "aa", "a", ""))
        self.assertEqual(joined.finish(number), (12, 0))
        number, _, _ = joined.run("aaa")
        self.assertEqual(joined.state(number), ("a", "aa", "a", ""))
        self.assertEqual(joined.finish(number), (22, 0))

    def test_run(self):
        joined = Joined(*pair())
        self.assertEqual(joined.run(""), (0, 0, 0))
        self.assertEqual(joined.run("aab"), (4, 7, 8))
        self.assertEqual(joined.run("aba"), (6, 7, 6))

    def test_widths(self):
        joined = Joined(*pair())
        self.assertEqual(joined.widths(""), (0, 0))
        self.assertEqual(joined.widths("aab"), (7, 8))
        self.assertEqual(joined.widths("aba"), (7, 8))

    def test_unknown_letters_of_a_text(self):
        joined = Joined(*pair())
        for text, letter, index in (("abc", "c", 2), ("ab ab", " ", 2), ("xay", "x", 0), ("a" * 99 + "B", "B", 99)):
            self.assert_refused(UnknownLetter(letter, index), joined.run, text)
            self.assert_refused(UnknownLetter(letter, index), joined.widths, text)

    def test_edges_is_a_generator(self):
        edges = Joined(*pair()).edges()
        self.assertIsInstance(edges, types.GeneratorType)
        self.assertEqual(next(edges), (0, "a", 1, 2, 0))

    def test_shortest_is_the_first_in_string_order(self):
        font = Font({"a": 1, "b": 2, "c": 3})
        joined = Joined(font, Font({"a": 1, "b": 2, "c": 3, "bb": 4, "cc": 5, "bcc": 6}))
        first = {}
        for text in texts("abc", 6):
            first.setdefault(joined.run(text)[0], text)
        self.assertEqual([joined.shortest(number) for number in range(len(joined))],
                         [first[number] for number in range(len(joined))])


class ModelTest(ProgramTest):
    def test_random_fonts(self):
        chance = random.Random(24)
        for _ in range(40):
            first = random_font(chance, chance.choice(["ab", "abc", "b", "bc"]), chance.randrange(4))
            second = random_font(chance, chance.choice(["ab", "ba", "c", "bcd"]), chance.randrange(4))
            joined = Joined(first, second)
            slow = SlowJoined(first, second)
            self.assertEqual(rows(joined), (slow.letters, slow.states, slow.edges, slow.finishes(), slow.texts))
            self.assertEqual(len(joined), len(slow.states))

    def test_texts_against_two_readers(self):
        chance = random.Random(25)
        for _ in range(30):
            fonts = [random_font(chance, "abcde", chance.randrange(12)) for _ in range(2)]
            joined = Joined(*fonts)
            readers = [Reader(font) for font in fonts]
            for _ in range(10):
                text = "".join(chance.choice("abcde") for _ in range(chance.randrange(60)))
                for reader in readers:
                    reader.feed(text)
                number, first_total, second_total = joined.run(text)
                self.assertEqual(joined.state(number), (readers[0].last, readers[0].pending,
                                                        readers[1].last, readers[1].pending))
                self.assertEqual((first_total, second_total), (readers[0].total, readers[1].total))
                found = tuple(reader.finish()[1] for reader in readers)
                self.assertEqual(joined.widths(text), found)
                ends = joined.finish(number)
                self.assertEqual((first_total + ends[0], second_total + ends[1]), found)


if __name__ == "__main__":
    unittest.main()
