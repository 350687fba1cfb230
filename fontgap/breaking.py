"""Breaking a text of words into lines."""

from fontgap.checks import check_measure
from fontgap.errors import InvalidText, UnknownLetter
from fontgap.shaping import width


def break_lines(font, text, measure):
    """Return the list of lines into which a text of words is broken."""
    return [" ".join(words) for words, _ in measured_lines(font, text, measure)]


def line_widths(font, text, measure):
    """Return the list of the widths of the lines into which a text of words is broken."""
    return [line_width for _, line_width in measured_lines(font, text, measure)]


def measured_lines(font, text, measure):
    """Return the list of (list of words, width) for the lines into which a text of words is broken."""
    check_measure(measure)
    check_words(font, text)
    lines = []
    for word in text.split():
        word_width = width(font, word)
        if len(lines) > 0 and lines[-1][1] + font.blank + word_width <= measure:
            words, line_width = lines.pop()
            words.append(word)
            lines.append((words, line_width + font.blank + word_width))
        else:
            lines.append(([word], word_width))
    return lines


def check_words(known, text):
    """Raise the error of the first blank that is not between two words, then that of the first unknown letter.

    What is known is a font or a list of letters.
    """
    last = len(text) - 1
    for index, letter in enumerate(text):
        if letter == " " and (index in (0, last) or text[index - 1] == " "):
            raise InvalidText(index)
    for index, letter in enumerate(text):
        if letter != " " and letter not in known:
            raise UnknownLetter(letter, index)
