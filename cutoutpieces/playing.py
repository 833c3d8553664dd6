"""Playing: runs of a body, word by word, and the signs that are seen."""

from cutoutpieces.machines import BODY, Machine


class Run:
    """A run of a body, which goes on word by word."""

    def __init__(self, body):
        self._body = body
        self._machine = Machine(body, [])

    @property
    def body(self):
        """The body of the run."""
        return self._body

    @property
    def spot(self):
        """The spot at which the run waits."""
        return self._machine.at

    def go(self, word):
        """Takes a word, and returns the list of the signs that it brings."""
        return self._machine.go(word)

    def back(self):
        """Takes the last word back, and returns it."""
        return self._machine.back()

    def signs(self):
        """The list of all signs."""
        return list(self._machine.seen)

    def words(self):
        """The list of the words."""
        return list(self._machine.taken)

    def variables(self):
        """The dict from the names that are set to their values."""
        return self._machine.held_in(BODY)

    def copied(self):
        """An equal Run that goes on by itself."""
        run = Run(self._body)
        for word in self.words():
            run.go(word)
        return run

    def __len__(self):
        return len(self._machine.taken)

    def __eq__(self, other):
        if not isinstance(other, Run):
            return False
        return self._body == other._body and self._machine.taken == other._machine.taken


def play(body, words):
    """The list of the signs of a run with a list of words."""
    run = Run(body)
    for word in words:
        run.go(word)
    return run.signs()
