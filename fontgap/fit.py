"""Lines that fit: how far a text that fits a measure in the first font overflows it in the second."""

from fontgap.checks import check_measure
from fontgap.filling import Filling, Lines, Outlook


def overflow(joined, measure):
    """Return the greatest second width minus the measure over the texts that fit in the first font, or None."""
    check_measure(measure)
    lines = Lines(joined, measure)
    outlook = Outlook(joined, lines)
    return None if outlook.free is not None else Filling(lines, outlook).greatest - measure


def least_widening(joined, measure):
    """Return by how much the measure must be widened so that all texts still fit in the second font, or None."""
    greatest = overflow(joined, measure)
    return None if greatest is None else max(0, greatest)


def overflow_by_length(joined, measure, most):
    """Return for each number of letters up to the most what overflow is for the texts of that length alone."""
    check_measure(measure)
    lines = Lines(joined, measure)
    found = []
    reached = {0: [(0, 0)]}
    # Where no text of a length can go on, none is longer.
    while len(found) <= most and len(reached) > 0:
        widest = widest_end(lines, reached)
        found.append(None if widest is None else widest - measure)
        reached = longer_by_one(lines, reached)
    return found + [None for _ in range(most + 1 - len(found))]


def widest_end(lines, reached):
    """Return the greatest second width of the texts that end in the states reached and fit, or None."""
    widths = []
    for number, totals in reached.items():
        first_width, second_width = lines.ends[number]
        widths.extend([second_total + second_width for first_total, second_total in totals
                       if first_total + first_width <= lines.measure])
    return max(widths) if len(widths) > 0 else None


def longer_by_one(lines, reached):
    """Return the pairs of totals by state after one more letter, without those that cannot fit any more."""
    found = {}
    for number, totals in reached.items():
        for after, first_width, second_width, _ in lines.rows[number]:
            room = lines.measure - lines.need[after] - first_width
            pairs = [(first_total + first_width, second_total + second_width) for first_total, second_total in totals
                     if first_total <= room]
            if len(pairs) > 0:
                found.setdefault(after, []).extend(pairs)
    return {number: useful(pairs) for number, pairs in found.items()}


def useful(pairs):
    """Return the pairs (first total, second total) that are not wider in the first font alone than another one."""
    kept = []
    for first_total, second_total in sorted(pairs):
        if len(kept) > 0 and kept[-1][0] == first_total:
            kept.pop()
        if len(kept) == 0 or second_total > kept[-1][1]:
            kept.append((first_total, second_total))
    return kept
