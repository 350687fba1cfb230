"""Libraries: named fonts, and claims that are watched while the fonts change."""

from fontgap.claims import GapBound, SameWidths
from fontgap.errors import InUse, InvalidOptions, NameTaken, UnknownKind, UnknownName
from fontgap.lineclaims import Fits, SameBreaks

# The options of each kind of claim, ascending.
OPTIONS = {"bound": ("rate", "slack"), "widths": (), "fits": ("measure", "widening"), "breaks": ("measure",)}


class Library:
    """Holds named fonts and watches claims about them."""

    def __init__(self):
        self._fonts = {}
        self._watches = {}
        self._decisions = 0

    @property
    def names(self):
        """The ascending list of the names of the fonts."""
        return sorted(list(self._fonts))

    @property
    def decisions(self):
        """How often a claim was decided."""
        return self._decisions

    def put(self, name, font):
        """Add a copy of a font."""
        if name in self._fonts:
            raise NameTaken(name)
        self._fonts[name] = font.copy()

    def font(self, name):
        """Return a copy of a font."""
        self._check_font(name)
        return self._fonts[name].copy()

    def drop(self, name):
        """Remove a font that no watch uses."""
        self._check_font(name)
        labels = self._labels_of(name)
        if len(labels) > 0:
            raise InUse(labels[0])
        del self._fonts[name]

    def edit(self, name, deeds):
        """Apply deeds to a font. Return the ascending list of the labels whose verdict has changed."""
        self._check_font(name)
        self._fonts[name].apply(deeds)
        return self._look_again(name)

    def undo(self, name):
        """Take back the last change of a font. Return the ascending list of the labels whose verdict has changed."""
        self._check_font(name)
        self._fonts[name].undo()
        return self._look_again(name)

    def watch(self, label, kind, first, second, **options):
        """Begin to watch a claim about two fonts and return its verdict."""
        if label in self._watches:
            raise NameTaken(label)
        if kind not in OPTIONS:
            raise UnknownKind(kind)
        self._check_font(first)
        self._check_font(second)
        if sorted(list(options)) != list(OPTIONS[kind]):
            raise InvalidOptions(kind)
        watch = Watch(kind, first, second, options)
        watch.renew(self._fonts)
        self._decisions += 1
        self._watches[label] = watch
        return watch.verdict()

    def unwatch(self, label):
        """End a watch."""
        self._check_watch(label)
        del self._watches[label]

    def report(self):
        """Return the list of (label, verdict), ascending."""
        return [(label, self._watches[label].verdict()) for label in sorted(list(self._watches))]

    def certificate(self, label):
        """Return a copy of the kept certificate of a watch."""
        self._check_watch(label)
        return self._watches[label].certificate()

    def _check_font(self, name):
        if name not in self._fonts:
            raise UnknownName(name)

    def _check_watch(self, label):
        if label not in self._watches:
            raise UnknownName(label)

    def _labels_of(self, name):
        """Return the ascending list of the labels of the watches that use a font."""
        return [label for label in sorted(list(self._watches)) if self._watches[label].uses(name)]

    def _look_again(self, name):
        """Renew the certificates that a change of a font has made invalid. Return the labels of changed verdicts."""
        changed = []
        for label in self._labels_of(name):
            watch = self._watches[label]
            before = watch.verdict()
            if watch.renew(self._fonts):
                self._decisions += 1
            if watch.verdict() != before:
                changed.append(label)
        return changed


class Watch:
    """A claim about two named fonts and the certificate that is kept for it."""

    def __init__(self, kind, first, second, options):
        self._kind = kind
        self._first = first
        self._second = second
        self._options = dict(options)
        self._kept = None

    def uses(self, name):
        """Tell whether the claim is about a font."""
        return name in (self._first, self._second)

    def verdict(self):
        """Tell whether the kept certificate says that the claim holds."""
        return self._kept[0] == "holds"

    def certificate(self):
        """Return a copy of the kept certificate."""
        parts = [list(part) if isinstance(part, list) else part for part in self._kept]
        return tuple(parts)

    def renew(self, fonts):
        """Decide the claim, unless the kept certificate is still valid for the fonts. Tell whether it was decided."""
        claim = self._claim(fonts)
        if claim.judge(self._kept):
            return False
        self._kept = claim.decide()
        return True

    def _claim(self, fonts):
        """Return the claim about the fonts as they are now."""
        first = fonts[self._first]
        second = fonts[self._second]
        options = self._options
        if self._kind == "bound":
            return GapBound(first, second, options["rate"], options["slack"])
        if self._kind == "fits":
            return Fits(first, second, options["measure"], options["widening"])
        if self._kind == "breaks":
            return SameBreaks(first, second, options["measure"])
        return SameWidths(first, second)
