"""Filling a measure: the texts that fit in the first font, and how wide the second font makes them."""

from heapq import heappop, heappush

from fontgap.paths import Paths, path_text


class Lines:
    """The steps of a joined reader with the first widths that texts need at the least.

    `rows` has the steps of each state, `ends` the two widths of its finish, and `need` the least first width that is
    still to come, whatever letters follow.
    """

    def __init__(self, joined, measure):
        self.measure = measure
        self.rows = width_rows(joined)
        self.ends = [joined.finish(number) for number in range(len(joined))]
        self._ways_out = self._find_ways_out()
        self.need = [-value for value in self._ways_out.sums]

    def way_out(self, number):
        """Return the letters that lead from a state to the end of a text with the least first width."""
        return path_text(self._ways_out.origins, number)[::-1]

    def free_ring(self):
        """Return (prefix, ring, suffix) if the ring widens fitting texts in the second font alone, else None.

        The text of the prefix and the suffix fits with the ring repeated any number of times.
        """
        ways_in = self._find_ways_in()
        usable = [self.need[number] - value <= self.measure for number, value in enumerate(ways_in.sums)]
        begun = [0 if usable[number] else None for number in range(len(usable))]
        free = [[(after, second_width, letter) for after, first_width, second_width, letter in row
                 if first_width == 0 and usable[after]] for row in self.rows]
        rings = Paths(free, begun).rings
        if len(rings) == 0:
            return None
        number, ring = rings[0]
        return ways_in.text_to(number), ring, self.way_out(number)

    def _find_ways_in(self):
        """Return the paths from state 0 on which a letter costs its first width."""
        rows = [[(after, -first_width, letter) for after, first_width, _, letter in row] for row in self.rows]
        begun = [None for _ in rows]
        begun[0] = 0
        return Paths(rows, begun)

    def _find_ways_out(self):
        """Return the paths from the ends of texts back to the states, which cost the first widths on the way."""
        rows = [[] for _ in self.rows]
        for number, row in enumerate(self.rows):
            for after, first_width, _, letter in row:
                rows[after].append((number, -first_width, letter))
        return Paths(rows, [-first_width for first_width, _ in self.ends])


class Filling:
    """The greatest second width of the texts that fit in the first font. There must be no free ring.

    The first totals are taken in ascending order. Of the texts that lead to a state, one counts only if none with at
    most its first total has at least its second total.
    """

    def __init__(self, lines):
        self._lines = lines
        # For each state the greatest second total so far.
        self._best = [None for _ in lines.rows]
        # The second totals by state by first total, the first totals as a heap, and the last steps by node.
        self._waiting = {0: {0: 0}}
        self._totals = [0]
        self._origins = {(0, 0): None}
        self.greatest = None
        self._greatest_at = None
        while len(self._totals) > 0:
            total = heappop(self._totals)
            self._settle(total)
            self._leave(total)
            del self._waiting[total]

    def fullest_text(self):
        """Return a text with the greatest second width."""
        return path_text(self._origins, self._greatest_at)

    def _settle(self, total):
        """Find the second totals of all states at a first total, and go on from them to greater ones."""
        reached = self._waiting[total]
        changed = list(reached)
        while len(changed) > 0:
            raised = {}
            for number in changed:
                second_total = reached[number]
                if self._counts(number, second_total):
                    self._best[number] = second_total
                    for after in self._go_on(number, total, second_total):
                        raised[after] = True
            changed = list(raised)

    def _go_on(self, number, total, second_total):
        """Take the steps from a state with its totals. Return the states that come anew at the same first total."""
        lines = self._lines
        same = []
        for after, first_width, second_width, letter in lines.rows[number]:
            later = total + first_width
            found = second_total + second_width
            if later + lines.need[after] <= lines.measure and self._counts(after, found):
                if self._put(after, later, found):
                    self._origins[(after, later)] = ((number, total), letter)
                    if first_width == 0:
                        same.append(after)
        return same

    def _counts(self, number, second_total):
        """Tell whether a second total is greater than all those of a state at the first totals so far."""
        best = self._best[number]
        return best is None or second_total > best

    def _put(self, number, total, second_total):
        """Note a second total of a state at a first total. Return False if one as great is noted there."""
        if total not in self._waiting:
            self._waiting[total] = {}
            heappush(self._totals, total)
        reached = self._waiting[total]
        if number in reached and reached[number] >= second_total:
            return False
        reached[number] = second_total
        return True

    def _leave(self, total):
        """Compare the texts that end at a first total with the widest one so far."""
        lines = self._lines
        for number, second_total in self._waiting[total].items():
            first_width, second_width = lines.ends[number]
            found = second_total + second_width
            if total + first_width <= lines.measure and (self.greatest is None or found > self.greatest):
                self.greatest = found
                self._greatest_at = (number, total)


class AllNodes(Filling):
    """The greatest second total of each node (state, first total) that lies on the way to a text that fits."""

    def __init__(self, lines):
        self.bounds = {}
        super().__init__(lines)

    def _counts(self, number, second_total):
        return True

    def _leave(self, total):
        for number, second_total in self._waiting[total].items():
            self.bounds[(number, total)] = second_total


def lost_nodes(lines, nodes):
    """Return the list of the nodes from which no text fits, but to which letters lead from the given nodes."""
    found = {}
    ahead = list(nodes)
    while len(ahead) > 0:
        number, total = ahead.pop()
        for after, first_width, _, _ in lines.rows[number]:
            node = (after, total + first_width)
            is_lost = node[1] <= lines.measure < node[1] + lines.need[after]
            if is_lost and node not in found:
                found[node] = True
                ahead.append(node)
    return list(found)


def width_rows(joined):
    """Return for each state the list of its steps (next, first width, second width, letter)."""
    rows = [[] for _ in range(len(joined))]
    for number, letter, after, first_width, second_width in joined.edges():
        rows[number].append((after, first_width, second_width, letter))
    return rows
