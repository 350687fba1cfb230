"""The error classes of the interface."""

import unittest

from fontgap import errors
from fontgap.errors import FontError

ATTRIBUTES = {
    "InvalidGlyph": ("glyph",),
    "InvalidNumber": ("value",),
    "UnknownGlyph": ("glyph",),
    "TooMany": ("limit",),
    "Overlap": ("left", "right"),
    "InUse": ("user",),
    "DeedRefused": ("index",),
    "InvalidLine": ("line",),
    "UnknownLetter": ("letter", "index"),
    "InvalidState": ("number",),
    "InvalidText": ("index",),
    "Contradiction": ("combination",),
    "NameTaken": ("name",),
    "UnknownName": ("name",),
    "UnknownKind": ("kind",),
    "InvalidOptions": ("kind",),
    "NothingToUndo": (),
    "NoCommonLetters": (),
}


class ErrorsTest(unittest.TestCase):
    def test_there_are_eighteen_classes_below_the_base_class(self):
        found = [name for name, value in vars(errors).items()
                 if isinstance(value, type) and issubclass(value, Exception) and value is not FontError]
        self.assertEqual(sorted(found), sorted(ATTRIBUTES))
        self.assertEqual(len(found), 18)

    def test_the_base_class_is_a_value_error(self):
        self.assertEqual(FontError.__bases__, (ValueError,))

    def test_each_class_is_directly_below_the_base_class(self):
        for name in ATTRIBUTES:
            self.assertEqual(getattr(errors, name).__bases__, (FontError,), name)

    def test_none_is_below_another(self):
        for name in ATTRIBUTES:
            for other in ATTRIBUTES:
                if name != other:
                    self.assertFalse(issubclass(getattr(errors, name), getattr(errors, other)), (name, other))

    def test_each_has_its_attributes_and_no_others(self):
        for name, attributes in ATTRIBUTES.items():
            values = [f"value {k}" for k in range(len(attributes))]
            error = getattr(errors, name)(*values)
            self.assertEqual(vars(error), dict(zip(attributes, values)), name)

    def test_attributes_keep_values_of_any_kind(self):
        for value in (None, True, [], ["a"], ("a", 1), {}, 10 ** 6000):
            self.assertIs(errors.InvalidNumber(value).value, value)
            self.assertIs(errors.InvalidGlyph(value).glyph, value)

    def test_each_takes_exactly_its_attributes(self):
        for name, attributes in ATTRIBUTES.items():
            if attributes:
                self.assertRaises(TypeError, getattr(errors, name))
                self.assertRaises(TypeError, getattr(errors, name), *range(len(attributes) + 1))

    def test_each_can_be_made_by_keyword_and_caught_as_base(self):
        for name, attributes in ATTRIBUTES.items():
            with self.assertRaises(FontError) as caught:
                raise getattr(errors, name)(**{word: 7 for word in attributes})
            self.assertEqual(vars(caught.exception), {word: 7 for word in attributes}, name)


if __name__ == "__main__":
    unittest.main()
