"""Breaking the words of a text with two fonts at once."""

from fontgap.checks import is_between
from fontgap.filling import width_rows
from fontgap.paths import path_text

# The node of the empty text.
START = (0, -1, 0, -1, 0)


class Pages:
    """The nodes of two fonts that break the same text, and the steps between them.

    A node is a tuple (state, first line, first word, second line, second word). Widths beyond the measure count as one
    more than the measure.
    """

    def __init__(self, joined, first_blank, second_blank, measure):
        self._rows = width_rows(joined)
        self._ends = [joined.finish(number) for number in range(len(joined))]
        self._blanks = (first_blank, second_blank)
        self._measure = measure

    def search(self):
        """Return (text, None) with the first text that is broken into different lines, or (None, all nodes)."""
        origins = {START: None}
        nodes = [START]
        at = 0
        # The nodes are found in the order of their first texts: shorter ones first, then in string order.
        while at < len(nodes):
            node = nodes[at]
            if self._is_unlike(node):
                return path_text(origins, node), None
            for letter, after in self._moves(node):
                if after not in origins:
                    origins[after] = (node, letter)
                    nodes.append(after)
            at += 1
        return None, nodes

    def is_closed(self, nodes):
        """Tell whether a value is a list of nodes without an unlike one that no text of words leads out of."""
        if not isinstance(nodes, list) or not all([self._is_node(node) for node in nodes]):
            return False
        known = {node: True for node in nodes}
        if len(known) < len(nodes) or START not in known:
            return False
        for node in nodes:
            if self._is_unlike(node) or not all([after in known for _, after in self._moves(node)]):
                return False
        return True

    def _is_node(self, value):
        """Tell whether a value is a tuple of a state number and four widths in their ranges."""
        if not isinstance(value, tuple) or len(value) != 5:
            return False
        number, first_line, first_word, second_line, second_word = value
        most = self._measure + 1
        lines_fit = is_between(first_line, -1, most) and is_between(second_line, -1, most)
        words_fit = is_between(first_word, 0, most) and is_between(second_word, 0, most)
        return is_between(number, 0, len(self._rows) - 1) and lines_fit and words_fit

    def _moves(self, node):
        """Return the list of (character, next node), ascending."""
        number, first_line, first_word, second_line, second_word = node
        most = self._measure + 1
        found = []
        if number != 0:
            first, second = self._lines_after(node)
            found.append((" ", (0, first, 0, second, 0)))
        for after, first_width, second_width, letter in self._rows[number]:
            first = min(first_word + first_width, most)
            second = min(second_word + second_width, most)
            found.append((letter, (after, first_line, first, second_line, second)))
        return found

    def _lines_after(self, node):
        """Return the two lines after the word of a node."""
        found = []
        for line, word, blank in self._sides(node):
            if self._joins(line, word, blank):
                found.append(line + blank + word)
            else:
                found.append(min(word, self._measure + 1))
        return found

    def _is_unlike(self, node):
        """Tell whether the word of a node joins the line in exactly one of the fonts."""
        if node[0] == 0:
            return False
        first, second = [self._joins(line, word, blank) for line, word, blank in self._sides(node)]
        return first != second

    def _sides(self, node):
        """Return for each font the line, the width of the word if it ends here, and the blank."""
        number, first_line, first_word, second_line, second_word = node
        first_end, second_end = self._ends[number]
        first_blank, second_blank = self._blanks
        first = (first_line, first_word + first_end, first_blank)
        second = (second_line, second_word + second_end, second_blank)
        return [first, second]

    def _joins(self, line, word, blank):
        """Tell whether a word is put on the line of the words before it."""
        return line != -1 and line + blank + word <= self._measure
