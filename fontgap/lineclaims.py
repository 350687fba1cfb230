"""Claims about lines: that texts fit, and that words are broken alike."""

from fontgap.breaking import break_lines, check_words
from fontgap.checks import check_measure, is_between, is_whole
from fontgap.claims import Claim, has_form, repeated_totals, times_beyond
from fontgap.errors import FontError, InvalidNumber
from fontgap.filling import Filling, Lines, Outlook, lost_nodes, width_rows
from fontgap.pages import Pages
from fontgap.ratios import written


class Fits(Claim):
    """Each text that fits the measure in the first font fits the measure plus the widening in the second."""

    def __init__(self, first, second, measure, widening):
        check_measure(measure)
        if not is_whole(widening):
            raise InvalidNumber(widening)
        super().__init__(first, second)
        self._measure = measure
        self._widening = widening

    def describe(self):
        """Return what the claim says."""
        begin = super().describe()
        measure = written(self._measure)
        return f"{begin}: fits {measure} and {written(self._widening)} more if it fits {measure}"

    def decide(self):
        """Return a certificate with all nodes to which texts lead, or with a text that breaks the claim."""
        lines = Lines(self._joined, self._measure)
        outlook = Outlook(self._joined, lines)
        if outlook.free is not None:
            prefix, ring, suffix = outlook.free
            return ("fails", prefix, ring, self._times_needed(prefix, ring, suffix), suffix)
        filling = Filling(lines, outlook)
        if filling.greatest > self._limit():
            return ("fails", filling.fullest_text(), "", 0, "")
        filling.visit_all()
        bounds = filling.bounds
        rows = [(number, total, bound) for (number, total), bound in bounds.items()]
        return ("holds", rows + [(number, total, None) for number, total in lost_nodes(lines, bounds)])

    def judge(self, certificate):
        """Tell whether a value is a valid certificate of this claim."""
        if has_form(certificate, "holds", 2):
            return self._bounds_all(certificate[1])
        found = repeated_totals(self._joined, certificate)
        return found is not None and found[1] <= self._measure and found[2] > self._limit()

    def _limit(self):
        """Return how wide a text may be in the second font."""
        return self._measure + self._widening

    def _times_needed(self, prefix, ring, suffix):
        """Return how often a ring must be repeated between the others until the claim is broken."""
        never = repeated_totals(self._joined, ("fails", prefix, ring, 0, suffix))
        once = repeated_totals(self._joined, ("fails", prefix, ring, 1, suffix))
        return times_beyond(never[2], once[2], self._limit())

    def _bounds_all(self, rows):
        """Tell whether a list of rows proves the claim."""
        bounds = self._read_rows(rows)
        if bounds is None or bounds.get((0, 0)) is None or bounds[(0, 0)] < 0:
            return False
        steps = width_rows(self._joined)
        return all([self._is_kept(node, bounds, steps[node[0]]) for node in bounds])

    def _read_rows(self, rows):
        """Return the bounds by node, or None if the value is no list of rows with each node once."""
        if not isinstance(rows, list):
            return None
        bounds = {}
        for row in rows:
            if not self._is_row(row) or row[:2] in bounds:
                return None
            bounds[row[:2]] = row[2]
        return bounds

    def _is_row(self, value):
        """Tell whether a value is a row of a state, a total and a bound or None."""
        if not isinstance(value, tuple) or len(value) != 3:
            return False
        number, total, bound = value
        if not is_between(number, 0, len(self._joined) - 1) or not is_between(total, 0, self._measure):
            return False
        return bound is None or is_whole(bound)

    def _is_kept(self, node, bounds, steps):
        """Tell whether the bound of a node agrees with its end and with the bounds to which its letters lead."""
        number, total = node
        bound = bounds[node]
        first_end, second_end = self._joined.finish(number)
        if total + first_end <= self._measure and (bound is None or bound + second_end > self._limit()):
            return False
        for after, first_width, second_width, _ in steps:
            later = (after, total + first_width)
            if later[1] <= self._measure:
                if later not in bounds:
                    return False
                reached = bounds[later]
                if reached is not None and (bound is None or reached < bound + second_width):
                    return False
        return True


class SameBreaks(Claim):
    """The words of each text of words are broken into the same lines in both fonts."""

    def __init__(self, first, second, measure):
        check_measure(measure)
        super().__init__(first, second)
        self._first = first.copy()
        self._second = second.copy()
        self._measure = measure
        self._pages = Pages(self._joined, first.blank, second.blank, measure)

    def describe(self):
        """Return what the claim says."""
        begin = super().describe()
        return f"{begin}: same breaks at {written(self._measure)}"

    def decide(self):
        """Return a certificate with all nodes to which texts lead, or with the first text of different lines."""
        text, nodes = self._pages.search()
        if text is not None:
            return ("fails", text)
        return ("holds", nodes)

    def judge(self, certificate):
        """Tell whether a value is a valid certificate of this claim."""
        if has_form(certificate, "holds", 2):
            return self._pages.is_closed(certificate[1])
        return has_form(certificate, "fails", 2) and self._is_unlike(certificate[1])

    def _is_unlike(self, text):
        """Tell whether a value is a text of words that is broken into different lines."""
        if not isinstance(text, str):
            return False
        try:
            check_words(self._joined.letters, text)
        except FontError:
            return False
        return break_lines(self._first, text, self._measure) != break_lines(self._second, text, self._measure)
