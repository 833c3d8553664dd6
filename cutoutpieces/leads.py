"""Leads: where words lead, whatever name is looked after."""

from cutoutpieces.spots import words_from
from cutoutpieces.walks import Walk, edges_of


def with_name(names, name):
    """The ascending tuple of the names and this one."""
    return names if name in names else tuple(sorted([*names, name]))


def without_name(names, name):
    """The tuple of the names without this one."""
    return tuple([other for other in names if other != name])


class Leads:
    """Walks of rows with stretches in them, each walked once and kept.

    A lead is a tuple (word, acts, spot, names, caught): what is done behind a word, the
    next spot, the names that are set there, and those of which a function was
    handed out by which they can be put. Acts are those of walks, but ("lack", name, ahead),
    with the names that the row needs ahead of the one that it lacks; at the end there is
    ("need", names) if the row at the spot needs names.
    """

    def __init__(self, layout, stretches):
        self._layout = layout
        self._edges = edges_of(stretches)
        self._kept = {}

    def begin(self, names):
        """The lead to the first wait, its word being ""."""
        if ((), names) not in self._kept:
            walk = Walk(self._layout, self._edges, names, ())
            walk.begin()
            self._kept[(), names] = self._lead("", walk)
        return self._kept[(), names]

    def behind(self, spot, names):
        """The list of the leads from a spot with these names set; it is not copied."""
        kept = self._kept.get((spot, names))
        if kept is None:
            kept = [self._behind_word(spot, word, names) for word in words_from(self._layout, spot[0])]
            self._kept[spot, names] = kept
        return kept

    def _behind_word(self, spot, word, names):
        walk = Walk(self._layout, self._edges, names, spot[1])
        walk.go(spot[0], word)
        return self._lead(word, walk)

    def _lead(self, word, walk):
        """The lead that a walk has gone behind a word."""
        done = [self._followed(act) for act in walk.acts]
        needed = self._layout.needed_at.get(walk.stop[0])
        if needed:
            done.append(("need", needed))
        caught = [act[2] for act in done if act[0] == "catch" and act[3] == "put"]
        return word, done, walk.stop, tuple(sorted(walk.known)), caught

    def _followed(self, act):
        """An act of a walk as leads have it."""
        return ("lack", act[2], self._layout.needs_ahead(act[1], act[2])) if act[0] == "lack" else act
