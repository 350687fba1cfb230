"""Filling a measure: the texts that fit in the first font, and how wide the second font makes them."""

from heapq import heappop, heappush

from fontgap.paths import Paths, path_text, walk
from fontgap.ratios import Ratio


class Lines:
    """The steps of a joined reader, seen from a measure that texts must fit in the first font.

    `rows` has the steps of each state, `ends` the two widths of its finish, and `need` the least first width that is
    still to come, whatever letters follow.
    """

    def __init__(self, joined, measure):
        self.measure = measure
        self.rows = width_rows(joined)
        self.ends = [joined.finish(number) for number in range(len(joined))]
        self._ways_out = self.ways_back(1, 0, [True for _ in self.rows])
        self.need = [-value for value in self._ways_out.sums]

    def ways_in(self):
        """Return the paths from state 0 on which a letter costs its first width."""
        rows = [[(after, -first_width, letter) for after, first_width, _, letter in row] for row in self.rows]
        begun = [None for _ in rows]
        begun[0] = 0
        return Paths(rows, begun)

    def ways_back(self, top, bottom, usable):
        """Return the paths from the ends of texts back to the states that can be used.

        Each step and each end is worth the bottom times its second width less the top times its first width.
        """
        rows = [[] for _ in self.rows]
        begun = [None for _ in self.rows]
        for number, row in enumerate(self.rows):
            if usable[number]:
                first_end, second_end = self.ends[number]
                begun[number] = bottom * second_end - top * first_end
                for after, first_width, second_width, letter in row:
                    rows[after].append((number, bottom * second_width - top * first_width, letter))
        return Paths(rows, begun)

    def way_out(self, number):
        """Return the letters that lead from a state to the end of a text with the least first width."""
        return path_text(self._ways_out.origins, number)[::-1]


class Outlook:
    """What the texts that fit a measure in the first font can come to in the second.

    `free` is (prefix, ring, suffix) if there is a ring that widens a text in the second font alone, so that the text
    fits with the ring repeated any number of times, and None otherwise. Then `price` is the greatest second width per
    first width in the long run, and `hope` has for each state the greatest value, over all that may follow, of the
    bottom of the price times the second width less the top of the price times the first width.
    """

    def __init__(self, joined, lines):
        self.free = None
        self.price = Ratio(0)
        ways_in = lines.ways_in()
        usable = [lines.need[number] - value <= lines.measure for number, value in enumerate(ways_in.sums)]
        paths = lines.ways_back(self.price.top, self.price.bottom, usable)
        while len(paths.rings) > 0 and self.free is None:
            number, ring, first_width, second_width = steepest(joined, paths.rings)
            if first_width == 0:
                self.free = (ways_in.text_to(number), ring, lines.way_out(number))
            else:
                self.price = Ratio(second_width, first_width)
                paths = lines.ways_back(self.price.top, self.price.bottom, usable)
        self.hope = paths.sums


class Filling:
    """The greatest second width of the texts that fit in the first font. There must be no free ring.

    A node is a pair (state, first total). The nodes that promise the widest texts are visited first. So a node has its
    greatest second total when it is visited, and the search may end when no node promises more than was found.
    """

    def __init__(self, lines, outlook):
        self._lines = lines
        self._outlook = outlook
        # The greatest second totals by node, and the last steps to the nodes.
        self.bounds = {(0, 0): 0}
        self._origins = {(0, 0): None}
        # A heap of (negative of the promise, negative of the first total, state). A node may stand in it more than
        # once: then only the first time counts.
        self._ahead = [(-outlook.hope[0], 0, 0)]
        self._visited = {}
        self.greatest = 0
        self._greatest_at = (0, 0)
        while len(self._ahead) > 0 and self._is_promising(-self._ahead[0][0]):
            self._visit_next()

    def fullest_text(self):
        """Return a text with the greatest second width."""
        return path_text(self._origins, self._greatest_at)

    def visit_all(self):
        """Find the bounds of all nodes from which a text can still fit."""
        while len(self._ahead) > 0:
            self._visit_next()

    def _is_promising(self, promise):
        """Tell whether a text of which so much is promised may be wider than the widest one so far."""
        price = self._outlook.price
        return promise + price.top * self._lines.measure > price.bottom * self.greatest

    def _visit_next(self):
        """Visit the node that promises the most, and go on from it."""
        _, negative_total, number = heappop(self._ahead)
        node = (number, -negative_total)
        if node not in self._visited:
            self._visited[node] = True
            self._end(node)
            self._go_on(node)

    def _end(self, node):
        """Compare the text that ends at a node with the widest one so far, if it fits."""
        number, total = node
        first_end, second_end = self._lines.ends[number]
        found = self.bounds[node] + second_end
        if total + first_end <= self._lines.measure and found > self.greatest:
            self.greatest = found
            self._greatest_at = node

    def _go_on(self, node):
        """Take the steps from a node to those from which a text can still fit."""
        number, total = node
        second_total = self.bounds[node]
        lines = self._lines
        for after, first_width, second_width, letter in lines.rows[number]:
            reached = (after, total + first_width)
            found = second_total + second_width
            if reached[1] + lines.need[after] <= lines.measure:
                if reached not in self.bounds or found > self.bounds[reached]:
                    self.bounds[reached] = found
                    self._origins[reached] = (node, letter)
                    heappush(self._ahead, (-self._promise(reached), -reached[1], after))

    def _promise(self, node):
        """Return the greatest value, as hope counts it, of all texts that come by a node."""
        number, total = node
        price = self._outlook.price
        return price.bottom * self.bounds[node] - price.top * total + self._outlook.hope[number]


def steepest(joined, rings):
    """Return (number, text, first width, second width) of a ring that is the widest for its first width.

    The texts of the rings are given backward.
    """
    best = None
    for number, backward in rings:
        ring = backward[::-1]
        _, first_width, second_width = walk(joined, number, ring)
        if best is None or second_width * best[2] > best[3] * first_width:
            best = (number, ring, first_width, second_width)
    return best


def lost_nodes(lines, nodes):
    """Return the list of the nodes from which no text fits, but to which letters lead from the given nodes."""
    found = {}
    ahead = list(nodes)
    while len(ahead) > 0:
        number, total = ahead.pop()
        for after, first_width, _, _ in lines.rows[number]:
            node = (after, total + first_width)
            is_lost = node[1] <= lines.measure < node[1] + lines.need[after]
            if is_lost and node not in found:
                found[node] = True
                ahead.append(node)
    return list(found)


def width_rows(joined):
    """Return for each state the list of its steps (next, first width, second width, letter)."""
    rows = [[] for _ in range(len(joined))]
    for number, letter, after, first_width, second_width in joined.edges():
        rows[number].append((after, first_width, second_width, letter))
    return rows
