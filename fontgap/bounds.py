"""The worst ring: how fast the widths of two fonts part in the long run, and how far at the most."""

from fontgap.errors import NoCommonLetters
from fontgap.joined import Joined
from fontgap.paths import gap_ends, gap_rows, rated_paths, walk
from fontgap.ratios import Ratio

# More than there are letters: a number below it can stand for a letter beside a multiple of it.
ROOM = 32


class Extreme:
    """The rate of a joined reader, with what proves that no less bound holds for the gaps of all texts."""

    def __init__(self, rate, prefix, ring, excess, text, potentials):
        self.rate = rate
        self.prefix = prefix
        self.ring = ring
        self.excess = excess
        self.text = text
        self.potentials = potentials


def extreme(joined):
    """Return the rate of a joined reader and what belongs to it."""
    check_common(joined)
    rate, number, ring, paths = worst_ring(joined)
    totals = [value + rate.bottom * end for value, end in zip(paths.sums, gap_ends(joined))]
    excess = max(totals)
    text = paths.text_to(totals.index(excess))
    return Extreme(rate, joined.shortest(number), ring, excess, text, list(paths.sums))


def worst_rate(joined):
    """Return the rate of a joined reader: the greatest mean of a ring."""
    check_common(joined)
    return worst_ring(joined)[0]


def spread(first, second):
    """Return the least and the greatest gap per letter in the long run."""
    return -worst_rate(Joined(second, first)), worst_rate(Joined(first, second))


def greatest_gap(joined, letters):
    """Return the greatest gap of all texts with exactly so many letters, and the first text that has it."""
    if letters == 0:
        return 0, ""
    check_common(joined)
    text = widest_text(joined, letters)
    first_width, second_width = joined.widths(text)
    return second_width - first_width, text


def check_common(joined):
    """Raise NoCommonLetters if there are none."""
    if len(joined.letters) == 0:
        raise NoCommonLetters()


def worst_ring(joined):
    """Return the rate, a state, a ring of that state with this mean, and the paths under the rate.

    As long as the mean of a ring is not the greatest one, there are rings of a positive sum under it, and the best
    of those that are found is the next to be tried.
    """
    rows = gap_rows(joined)
    rate, number, ring = best_ring(joined, [plain_ring(joined)])
    paths = rated_paths(rows, rate)
    while len(paths.rings) > 0:
        rate, number, ring = best_ring(joined, paths.rings)
        paths = rated_paths(rows, rate)
    return rate, number, ring, paths


def plain_ring(joined):
    """Return (number, text) of the ring that is met when the first letter is repeated."""
    letter = joined.letters[0]
    met = {}
    number = 0
    while number not in met:
        met[number] = len(met)
        number = joined.step(number, letter)[0]
    return number, letter * (len(met) - met[number])


def best_ring(joined, rings):
    """Return (mean, number, text) of a ring with the greatest mean."""
    best = None
    for number, ring in rings:
        _, first_total, second_total = walk(joined, number, ring)
        mean = Ratio(second_total - first_total, len(ring))
        if best is None or mean.compare(best[0]) > 0:
            best = (mean, number, ring)
    return best


def widest_text(joined, letters):
    """Return the first text with so many letters that has the greatest gap of these."""
    choices, begun = best_letters(joined, letters)
    found = []
    number = 0
    for left in range(letters, 0, -1):
        at = left - 1
        if at >= len(choices):
            at = begun + (at - begun) % (len(choices) - begun)
        letter = choices[at][number]
        found.append(letter)
        number = joined.step(number, letter)[0]
    return "".join(found)


def best_letters(joined, letters):
    """Return a list with a string for 1 letter left, for 2 and so on, and an index of it.

    The string has for each state the letter to go on with. The list may be shorter than is asked for: then it goes on
    with what stands from the index to its end, again and again.
    """
    rows = choice_rows(joined)
    names = joined.letters
    values = [end * ROOM for end in gap_ends(joined)]
    choices = []
    begun = 0
    earlier = values
    while len(choices) < letters:
        coded = [max([values[after] + weight for after, weight in row]) for row in rows]
        choices.append("".join([names[-1 - value % ROOM] for value in coded]))
        values = [value - value % ROOM for value in coded]
        if is_shifted(values, earlier):
            return choices, begun
        # An earlier row of values is compared with as many later ones as there are before it.
        if len(choices) >= 2 * begun:
            begun = len(choices)
            earlier = values
    return choices, begun


def choice_rows(joined):
    """Return for each state its steps (next, weight), where the weight also tells the letter.

    It is the growth times ROOM plus the number of the letters behind this one, so that of several steps that are worth
    the same, the one with the first letter is the greatest.
    """
    behind = {letter: place for place, letter in enumerate(joined.letters[::-1])}
    rows = [[] for _ in range(len(joined))]
    for number, letter, after, first_width, second_width in joined.edges():
        rows[number].append((after, (second_width - first_width) * ROOM + behind[letter]))
    return rows


def is_shifted(values, others):
    """Tell whether two rows of values differ by the same number everywhere."""
    shift = values[0] - others[0]
    return all([value - other == shift for value, other in zip(values, others)])
