"""Claims about all texts of the common letters of two fonts, and their certificates."""

from fontgap.checks import is_whole
from fontgap.errors import InvalidNumber
from fontgap.joined import Joined
from fontgap.paths import gap_ends, gap_rows, rated_paths, walk
from fontgap.ratios import Ratio, written


class Claim:
    """The base class of all claims, each of which decides and judges in its own way.

    The joined reader keeps what the claim needs of its fonts.
    """

    def __init__(self, first, second):
        self._joined = Joined(first, second)

    def holds(self):
        """Tell whether the claim is true."""
        return self.decide()[0] == "holds"

    def describe(self):
        """Return the beginning of what the claim says."""
        letters = "".join(self._joined.letters)
        return f"every text of {letters}"


class GapBound(Claim):
    """The gap of each text is at most the rate times the number of its letters plus the slack."""

    def __init__(self, first, second, rate, slack):
        if not isinstance(rate, Ratio):
            raise InvalidNumber(rate)
        if not is_whole(slack):
            raise InvalidNumber(slack)
        super().__init__(first, second)
        self._rate = rate
        self._slack = slack

    def describe(self):
        """Return what the claim says."""
        begin = super().describe()
        return f"{begin}: gap at most {self._rate} per letter plus {written(self._slack)}"

    def decide(self):
        """Return a certificate with the greatest potentials, or with a text that breaks the claim."""
        joined = self._joined
        paths = rated_paths(gap_rows(joined), self._rate)
        if len(paths.rings) > 0:
            number, ring = paths.rings[0]
            prefix = joined.shortest(number)
            return ("fails", prefix, ring, self._times_needed(prefix, ring), "")
        potentials = paths.sums
        for number, end in enumerate(gap_ends(joined)):
            if potentials[number] + self._rate.bottom * end > self._most():
                return ("fails", paths.text_to(number), "", 0, "")
        return ("holds", potentials)

    def judge(self, certificate):
        """Tell whether a value is a valid certificate of this claim."""
        if has_form(certificate, "holds", 2):
            return self._bounds_all(certificate[1])
        found = repeated_totals(self._joined, certificate)
        return found is not None and self._excess(found) > self._most()

    def _most(self):
        """Return how great the excess of a text may be."""
        return self._rate.bottom * self._slack

    def _excess(self, totals):
        """Return by how much q times a gap is more than p times a number of letters, the rate being p over q."""
        letters, first_width, second_width = totals
        return self._rate.bottom * (second_width - first_width) - self._rate.top * letters

    def _times_needed(self, prefix, ring):
        """Return how often a ring must be repeated behind a prefix until the claim is broken."""
        never = self._excess(repeated_totals(self._joined, ("fails", prefix, ring, 0, "")))
        once = self._excess(repeated_totals(self._joined, ("fails", prefix, ring, 1, "")))
        return times_beyond(never, once, self._most())

    def _bounds_all(self, potentials):
        """Tell whether potentials prove the claim."""
        joined = self._joined
        if not is_list_for(joined, potentials) or potentials[0] < 0:
            return False
        top = self._rate.top
        bottom = self._rate.bottom
        for number, row in enumerate(gap_rows(joined)):
            least = potentials[number] - top
            if any([potentials[after] < least + bottom * growth for after, growth, _ in row]):
                return False
        ends = gap_ends(joined)
        return all([potentials[number] + bottom * end <= self._most() for number, end in enumerate(ends)])


class SameWidths(Claim):
    """Each text has the same width in both fonts."""

    def describe(self):
        """Return what the claim says."""
        begin = super().describe()
        return f"{begin}: same width"

    def decide(self):
        """Return a certificate with the offsets, or with the first text of different widths."""
        joined = self._joined
        offsets = [-end for end in gap_ends(joined)]
        # The states are numbered in the order of their shortest texts, so the first step to a wrong offset ends the
        # first text of different widths.
        for number, row in enumerate(gap_rows(joined)):
            for after, growth, letter in row:
                if offsets[after] != offsets[number] + growth:
                    return ("fails", joined.shortest(number) + letter)
        return ("holds", offsets)

    def judge(self, certificate):
        """Tell whether a value is a valid certificate of this claim."""
        joined = self._joined
        if has_form(certificate, "holds", 2):
            return self._equals_all(certificate[1])
        if not has_form(certificate, "fails", 2) or not is_text(joined, certificate[1]):
            return False
        first_width, second_width = joined.widths(certificate[1])
        return first_width != second_width

    def _equals_all(self, offsets):
        """Tell whether offsets prove the claim."""
        joined = self._joined
        if not is_list_for(joined, offsets) or offsets[0] != 0:
            return False
        for number, row in enumerate(gap_rows(joined)):
            if any([offsets[after] != offsets[number] + growth for after, growth, _ in row]):
                return False
        return all([offsets[number] + end == 0 for number, end in enumerate(gap_ends(joined))])


def has_form(certificate, verdict, size):
    """Tell whether a value is a tuple of a size that begins with a verdict."""
    return isinstance(certificate, tuple) and len(certificate) == size and certificate[0] == verdict


def is_text(joined, value):
    """Tell whether a value is a text of the common letters."""
    letters = joined.letters
    return isinstance(value, str) and all([letter in letters for letter in value])


def is_list_for(joined, value):
    """Tell whether a value is a list with one integer for each state."""
    return isinstance(value, list) and len(value) == len(joined) and all([is_whole(number) for number in value])


def repeated_totals(joined, certificate):
    """Return (letters, first width, second width) of the text that a failing certificate with a ring tells.

    Return None if the value is no such certificate: the ring must lead the state after the prefix back to itself. The
    ring is read once only, so the number of times may be of any size.
    """
    if not has_form(certificate, "fails", 5):
        return None
    _, prefix, ring, times, suffix = certificate
    if not all([is_text(joined, part) for part in (prefix, ring, suffix)]) or not is_whole(times) or times < 0:
        return None
    number, first_total, second_total = joined.run(prefix)
    after, first_lap, second_lap = walk(joined, number, ring)
    if after != number:
        return None
    last, first_rest, second_rest = walk(joined, number, suffix)
    first_end, second_end = joined.finish(last)
    letters = len(prefix) + times * len(ring) + len(suffix)
    first_width = first_total + times * first_lap + first_rest + first_end
    second_width = second_total + times * second_lap + second_rest + second_end
    return letters, first_width, second_width


def times_beyond(never, once, limit):
    """Return how often a ring must be repeated until what it makes greater is beyond a limit.

    Without the ring it is `never`, and with the ring once it is `once`.
    """
    return max(0, (limit - never) // (once - never) + 1)
