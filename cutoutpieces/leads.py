"""Leads: where words lead, whatever name is looked after."""

from cutoutpieces.spots import words_from
from cutoutpieces.walks import Walk, edges_of


def with_name(names, name):
    """The ascending tuple of the names and this one."""
    return names if name in names else tuple(sorted([*names, name]))


def without_name(names, name):
    """The tuple of the names without this one."""
    return tuple([other for other in names if other != name])


class Leads:
    """Walks of rows with stretches in them, each walked once and kept.

    A lead is a tuple (word, acts, spot, names, caught): what is done behind a word, the
    next spot, the names that are set there, and those of which a function was
    handed out by which they can be put.
    """

    def __init__(self, layout, stretches):
        self._layout = layout
        self._edges = edges_of(stretches)
        self._kept = {}

    def begin(self, names):
        """The lead to the first wait, its word being ""."""
        if ((), names) not in self._kept:
            walk = Walk(self._layout, self._edges, names, ())
            walk.begin()
            self._kept[(), names] = lead_of("", walk)
        return self._kept[(), names]

    def behind(self, spot, names):
        """The tuple of the leads from a spot with these names set."""
        if (spot, names) not in self._kept:
            words = words_from(self._layout, spot[0])
            self._kept[spot, names] = tuple([self._behind_word(spot, word, names) for word in words])
        return self._kept[spot, names]

    def _behind_word(self, spot, word, names):
        walk = Walk(self._layout, self._edges, names, spot[1])
        walk.go(spot[0], word)
        return lead_of(word, walk)


def lead_of(word, walk):
    """The lead that a walk has gone behind a word."""
    caught = sorted(set([act[2] for act in walk.acts if act[0] == "catch" and act[3] == "put"]))
    return word, tuple(walk.acts), walk.stop, tuple(sorted(walk.known)), tuple(caught)
