"""Slow models of shaping and reading that follow the words of the document, and random fonts to compare with."""

import itertools

from fontgap.fonts import Font


def random_font(chance, letters, ligatures, kerned=30):
    """Return a font with these letters, up to so many ligatures, and a kern for so many pairs in a hundred."""
    advances = {letter: chance.randrange(50, 100) for letter in letters}
    for _ in range(ligatures if letters else 0):
        name = "".join(chance.choice(letters) for _ in range(chance.choice([2, 2, 3, 3, 4, 5, 6])))
        advances[name] = chance.randrange(50, 300)
    pairs = itertools.product(advances, repeat=2)
    kerns = {pair: chance.randrange(-50, 50) for pair in pairs if chance.randrange(100) < kerned}
    return Font(advances, kerns, blank=chance.randrange(100))


def texts(letters, most):
    """Return all texts of these letters with up to so many letters, shorter ones first, then in string order."""
    return ["".join(row) for size in range(most + 1) for row in itertools.product(sorted(letters), repeat=size)]


def slow_shape(font, text):
    known = font.glyphs()
    glyphs = []
    while text:
        glyphs.append(max((glyph for glyph in known if text.startswith(glyph)), key=len))
        text = text[len(glyphs[-1]):]
    return glyphs


def slow_row_width(font, glyphs, tracking=0):
    kerns = {(left, right): kern for left, right, kern in font.kerns()}
    pairs = list(zip(glyphs, glyphs[1:]))
    return sum(font[glyph] for glyph in glyphs) + sum(kerns.get(pair, 0) + tracking for pair in pairs)


def slow_width(font, text, tracking=0):
    return slow_row_width(font, slow_shape(font, text), tracking)


def slow_decided(font, text, endings):
    """Return the glyphs of a text that are the same for every continuation."""
    rows = [slow_shape(font, text + ending) for ending in endings]
    size = 0
    while all(row[:size + 1] == rows[0][:size + 1] and len(row) > size for row in rows):
        size += 1
    return rows[0][:size]


class SlowReader:
    """Keeps the whole text and decides its glyphs by trying all continuations."""

    def __init__(self, font):
        self.font = font
        # No glyph is longer than six letters, so five more of them decide every glyph that begins in the text.
        self.endings = texts(font.letters, 5)
        self.cache = {}

    def decided(self, text):
        if text not in self.cache:
            self.cache[text] = slow_decided(self.font, text, self.endings)
        return self.cache[text]

    def state(self, text):
        glyphs = self.decided(text)
        return (glyphs[-1] if glyphs else "", text[len("".join(glyphs)):])

    def total(self, text):
        return slow_row_width(self.font, self.decided(text))
