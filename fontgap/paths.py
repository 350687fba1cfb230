"""Longest paths over the states of a joined reader, and the rings that let them grow without end."""


class Paths:
    """The greatest sums of weights on the way to each state.

    `rows` has for each state the list of its steps (next, weight, letter), and `begun` the value with which the state
    begins, None for a state that does not begin a path. As long as rings of a positive sum are found, there are no
    greatest sums: then `rings` lists some of them, as pairs (number, text), and the values tell nothing.
    """

    def __init__(self, rows, begun):
        self.sums = list(begun)
        # For each state the number and the letter of the last step to it, None where a path begins.
        self.origins = [None for _ in begun]
        self.rings = []
        changed = [number for number, value in enumerate(begun) if value is not None]
        while len(changed) > 0 and len(self.rings) == 0:
            changed = self._spread(rows, changed)
            # Only a step that was just taken can close a ring, and each ring among the origins has a positive sum.
            self.rings = closed_rings(self.origins, changed)

    def text_to(self, number):
        """Return the letters of the longest path to a state. It comes through no state twice."""
        return path_text(self.origins, number)

    def _spread(self, rows, changed):
        """Go one step on from the states whose values have changed. Return the states whose values change by it."""
        values = self.sums
        raised = {}
        for number in changed:
            base = values[number]
            for after, weight, letter in rows[number]:
                old = values[after]
                if old is None or base + weight > old:
                    values[after] = base + weight
                    self.origins[after] = (number, letter)
                    raised[after] = True
        return list(raised)


def path_text(origins, end):
    """Return the letters on the way to a state or a node from where its path begins.

    The origins have for each of them the one before it and the letter of the step, or None where a path begins.
    """
    letters = []
    place = end
    while origins[place] is not None:
        place, letter = origins[place]
        letters.append(letter)
    return "".join(letters[::-1])


def closed_rings(origins, starts):
    """Return (number, text) for each ring of origins that is met on the way back from the given states."""
    met = {}
    found = []
    for start in starts:
        number = start
        while number not in met and origins[number] is not None:
            met[number] = start
            number = origins[number][0]
        if met.get(number) == start:
            found.append((number, ring_text(origins, number)))
    return found


def ring_text(origins, number):
    """Return the letters of the ring of origins on which a state lies, from that state on."""
    place, letter = origins[number]
    letters = [letter]
    while place != number:
        place, letter = origins[place]
        letters.append(letter)
    return "".join(letters[::-1])


def walk(joined, number, text):
    """Return the state after the letters of a text that is read from a state on, and the growth of both totals."""
    place = number
    first_total = 0
    second_total = 0
    for letter in text:
        place, first_width, second_width = joined.step(place, letter)
        first_total += first_width
        second_total += second_width
    return place, first_total, second_total


def gap_rows(joined):
    """Return for each state the list of its steps (next, growth, letter)."""
    rows = [[] for _ in range(len(joined))]
    for number, letter, after, first_width, second_width in joined.edges():
        rows[number].append((after, second_width - first_width, letter))
    return rows


def gap_ends(joined):
    """Return for each state the gap that the end of the text adds."""
    pairs = [joined.finish(number) for number in range(len(joined))]
    return [second_width - first_width for first_width, second_width in pairs]


def rated_paths(rows, rate):
    """Return the paths from state 0 where a letter weighs p less than q times its growth, the rate being p over q."""
    top = rate.top
    bottom = rate.bottom
    weighed = [[(after, bottom * growth - top, letter) for after, growth, letter in row] for row in rows]
    begun = [None for _ in rows]
    begun[0] = 0
    return Paths(weighed, begun)
