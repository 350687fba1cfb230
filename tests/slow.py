"""Slow models of shaping and reading that follow the words of the document, and random fonts to compare with."""

import itertools
from fractions import Fraction

from fontgap.fonts import Font


def random_font(chance, letters, ligatures, kerned=30):
    """Return a font with these letters, up to so many ligatures, and a kern for so many pairs in a hundred."""
    advances = {letter: chance.randrange(50, 100) for letter in letters}
    for _ in range(ligatures if letters else 0):
        name = "".join(chance.choice(letters) for _ in range(chance.choice([2, 2, 3, 3, 4, 5, 6])))
        advances[name] = chance.randrange(50, 300)
    pairs = itertools.product(advances, repeat=2)
    kerns = {pair: chance.randrange(-50, 50) for pair in pairs if chance.randrange(100) < kerned}
    return Font(advances, kerns, blank=chance.randrange(100))


def texts(letters, most):
    """Return all texts of these letters with up to so many letters, shorter ones first, then in string order."""
    return ["".join(row) for size in range(most + 1) for row in itertools.product(sorted(letters), repeat=size)]


def slow_shape(font, text):
    known = font.glyphs()
    glyphs = []
    while text:
        glyphs.append(max((glyph for glyph in known if text.startswith(glyph)), key=len))
        text = text[len(glyphs[-1]):]
    return glyphs


def slow_row_width(font, glyphs, tracking=0):
    kerns = {(left, right): kern for left, right, kern in font.kerns()}
    pairs = list(zip(glyphs, glyphs[1:]))
    return sum(font[glyph] for glyph in glyphs) + sum(kerns.get(pair, 0) + tracking for pair in pairs)


def slow_width(font, text, tracking=0):
    return slow_row_width(font, slow_shape(font, text), tracking)


def slow_decided(font, text, endings):
    """Return the glyphs of a text that are the same for every continuation."""
    rows = [slow_shape(font, text + ending) for ending in endings]
    size = 0
    while all(row[:size + 1] == rows[0][:size + 1] and len(row) > size for row in rows):
        size += 1
    return rows[0][:size]


class SlowReader:
    """Keeps the whole text and decides its glyphs by trying all continuations."""

    def __init__(self, font):
        self.font = font
        # No glyph is longer than six letters, so five more of them decide every glyph that begins in the text.
        self.endings = texts(font.letters, 5)
        self.cache = {}

    def decided(self, text):
        if text not in self.cache:
            self.cache[text] = slow_decided(self.font, text, self.endings)
        return self.cache[text]

    def state(self, text):
        glyphs = self.decided(text)
        return (glyphs[-1] if glyphs else "", text[len("".join(glyphs)):])

    def total(self, text):
        return slow_row_width(self.font, self.decided(text))


def small_font(chance, letters, ligatures, most):
    """Return a font with advances up to the most, also 0, with ligatures of two or three letters and some kerns."""
    advances = {letter: chance.randrange(most + 1) for letter in letters}
    for _ in range(ligatures if letters else 0):
        name = "".join(chance.choice(letters) for _ in range(chance.choice([2, 2, 3])))
        advances[name] = chance.randrange(2 * most + 1)
    kerns = {}
    for left, right in itertools.product(advances, repeat=2):
        if chance.randrange(100) < 30:
            kerns[(left, right)] = chance.randrange(-min(advances[left], advances[right]), most + 1)
    return Font(advances, kerns, blank=chance.randrange(most + 1))


def slow_gap(first, second, text):
    return slow_width(second, text) - slow_width(first, text)


def steps_of(joined):
    """Return for each state the list of (letter, next, first width, second width)."""
    steps = [[] for _ in range(len(joined))]
    for number, letter, after, first_width, second_width in joined.edges():
        steps[number].append((letter, after, first_width, second_width))
    return steps


def follow(joined, number, text):
    """Return the state after a text that is read from a state on, and the growth of both totals."""
    totals = [0, 0]
    for letter in text:
        number, first_width, second_width = joined.step(number, letter)
        totals[0] += first_width
        totals[1] += second_width
    return number, totals[0], totals[1]


def slow_potentials(joined, top, bottom):
    """Return for each state the greatest value of bottom * growths - top * letters, over texts with few letters."""
    steps = steps_of(joined)
    layer = {0: 0}
    best = {0: 0}
    for _ in range(len(joined) - 1):
        following = {}
        for number, value in layer.items():
            for _, after, first_width, second_width in steps[number]:
                found = value + bottom * (second_width - first_width) - top
                following[after] = max(found, following.get(after, found))
        layer = following
        for number, value in layer.items():
            best[number] = max(value, best.get(number, value))
    return [best[number] for number in range(len(joined))]


def slow_rate(joined):
    """Return the greatest mean of a ring as a Fraction: Karp's way, over texts of each length from each state."""
    steps = steps_of(joined)
    size = len(joined)
    layers = [{0: 0}]
    for _ in range(size):
        following = {}
        for number, value in layers[-1].items():
            for _, after, first_width, second_width in steps[number]:
                found = value + second_width - first_width
                following[after] = max(found, following.get(after, found))
        layers.append(following)
    return max(min(Fraction(layers[size][number] - layers[letters][number], size - letters)
                   for letters in range(size) if number in layers[letters])
               for number in layers[size])


def slow_by_length(joined, measure, most):
    """Return the greatest second width minus the measure for each length: all totals of all nodes are kept."""
    steps = steps_of(joined)
    layer = {(0, 0): 0}
    found = []
    for _ in range(most + 1):
        widths = [value + joined.finish(number)[1] for (number, total), value in layer.items()
                  if total + joined.finish(number)[0] <= measure]
        found.append(max(widths) - measure if widths else None)
        following = {}
        for (number, total), value in layer.items():
            for _, after, first_width, second_width in steps[number]:
                node = (after, total + first_width)
                if node[1] <= measure:
                    following[node] = max(value + second_width, following.get(node, 0))
        layer = following
    return found


def slow_overflow(joined, measure):
    """Return the greatest value over all lengths, or None if texts with more letters than nodes have greater ones."""
    nodes = len(joined) * (measure + 1)
    found = slow_by_length(joined, measure, 2 * nodes)
    short = max(value for value in found[:nodes + 1] if value is not None)
    return None if any(value is not None and value > short for value in found[nodes + 1:]) else short
