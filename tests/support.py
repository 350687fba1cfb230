"""What several tests share."""

import unittest


class ProgramTest(unittest.TestCase):
    """A test case that compares errors with all their attributes."""

    def assert_refused(self, error, call, *args, **named):
        """Check that a call raises an error of exactly this class with exactly these attributes."""
        with self.assertRaises(type(error)) as caught:
            call(*args, **named)
        self.assert_same_error(caught.exception, error)
        return caught.exception

    def assert_same_error(self, found, error):
        self.assertIs(type(found), type(error))
        self.assertEqual(typed(vars(found)), typed(vars(error)))


def typed(attributes):
    """Add the class of each value, so that True does not pass for 1."""
    return {name: (type(value), value) for name, value in attributes.items()}


def state(font):
    """Return all that a font holds, as new values."""
    advances = {glyph: font.advance_of(glyph) for glyph in font.glyphs()}
    return (advances, font.kerns(), font.blank)
