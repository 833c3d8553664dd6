"""Cutting: runs of a cut body, and where they show something else than those of the body."""

from cutoutpieces.errors import BadWord
from cutoutpieces.machines import BODY, Machine
from cutoutpieces.playing import play


class CutRun:
    """A run of a cut body, which goes on word by word."""

    def __init__(self, cut):
        self._cut = cut
        self._body = cut.body
        self._machine = Machine(cut.body, cut.calls())

    @property
    def cut(self):
        """The Cut of the run."""
        return self._cut

    @property
    def body(self):
        """The body without calls."""
        return self._body

    @property
    def spot(self):
        """The spot at which the run waits, that of the body without calls."""
        return self._machine.at

    def go(self, word):
        """Takes a word, and returns the list of the signs that it brings."""
        return self._machine.go(word)

    def back(self):
        """Takes the last word back, and returns it."""
        return self._machine.back()

    def signs(self):
        """The list of all signs."""
        return list(self._machine.seen)

    def words(self):
        """The list of the words."""
        return list(self._machine.taken)

    def variables(self):
        """The dict from the names that are set in the body to their values."""
        return self._machine.held_in(BODY)

    def frame(self):
        """The dict from the names that are set in the frame that goes on to their values, or None."""
        if self._machine.going == BODY:
            return None
        return self._machine.held_in(self._machine.going)

    def copied(self):
        """An equal CutRun that goes on by itself."""
        run = CutRun(self._cut)
        for word in self.words():
            run.go(word)
        return run

    def __len__(self):
        return len(self._machine.taken)

    def __eq__(self, other):
        if not isinstance(other, CutRun):
            return False
        return self._cut == other._cut and self._machine.taken == other._machine.taken


def play_cut(cut, words):
    """The list of the signs of a run of a cut body with a list of words."""
    run = CutRun(cut)
    for word in words:
        run.go(word)
    return run.signs()


def signs_taken(cut, words):
    """The list of the signs of a cut body with the words, up to the first one that it does not take."""
    run = CutRun(cut)
    for word in words:
        try:
            run.go(word)
        except BadWord:
            return run.signs()
    return run.signs()


def unlike(cut, words):
    """The index of the first sign that only one of body and cut shows with the words, or None."""
    signs = play(cut.body, words)
    others = signs_taken(cut, words)
    for index in range(max(len(signs), len(others))):
        if signs[index:index + 1] != others[index:index + 1]:
            return index
    return None
