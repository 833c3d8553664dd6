"""Playing: runs of a body, word by word, and the signs that are seen."""

from cutoutpieces.errors import BadWord, Nothing
from cutoutpieces.spots import begun, behind, words_at
from cutoutpieces.words import is_integer, is_use


def takes_use(functions, thing):
    """Whether any value is a use of one of the functions that were handed out, told as (name, use)."""
    if not isinstance(thing, tuple) or len(thing) != 2:
        return False
    if not is_use(thing[0]) or not is_integer(thing[1]) or not 0 <= thing[1] < len(functions):
        return False
    return functions[thing[1]][1] == thing[0]


def sign_at(body, spot, values):
    """The sign behind which a run waits, values being the dict from the names that are set."""
    address, pending = spot
    if address == ():
        return ("end", pending[0])
    row = body.row_at(address)
    if row[0] == "if" or row[0] == "loop":
        return ("ask", row[1])
    if row[0] == "strike":
        return ("strike", row[1], values[row[2]])
    return (row[0], row[1], tuple([values[name] for name in row[2]]))


class Run:
    """A run of a body, which goes on word by word."""

    def __init__(self, body):
        self._body = body
        self._words = []
        self._past = []
        self._signs = []
        self._functions = []
        self._values = {name: value for value, name in enumerate(body.given)}
        self._fresh = len(self._values)
        self._spot = None
        acts, spot = begun(body)
        self._follow(acts, spot)

    @property
    def body(self):
        """The body of the run."""
        return self._body

    @property
    def spot(self):
        """The spot at which the run waits."""
        return self._spot

    def __len__(self):
        return len(self._words)

    def __eq__(self, other):
        return isinstance(other, Run) and self._body == other._body and self._words == other._words

    def signs(self):
        """The list of all signs."""
        return list(self._signs)

    def words(self):
        """The list of the words."""
        return list(self._words)

    def variables(self):
        """The dict from the names that are set to their values."""
        return {name: self._values[name] for name in sorted(self._values)}

    def go(self, word):
        """Takes a word, and returns the list of the signs that it brings."""
        told = isinstance(word, str) and word in words_at(self._body, self._spot)
        if not told and not takes_use(self._functions, word):
            raise BadWord(len(self._words))
        seen = len(self._signs)
        self._past.append((self._spot, dict(self._values), self._fresh, len(self._functions), seen))
        self._words.append(word)
        if told:
            self._tell(word)
        else:
            self._use(word[0], word[1])
        return self._signs[seen:]

    def back(self):
        """Takes the last word back, and returns it."""
        if len(self._words) == 0:
            raise Nothing()
        self._spot, self._values, self._fresh, handed, seen = self._past.pop()
        self._functions = self._functions[:handed]
        self._signs = self._signs[:seen]
        return self._words.pop()

    def copied(self):
        """An equal Run that goes on by itself."""
        run = Run(self._body)
        for word in self.words():
            run.go(word)
        return run

    def _tell(self, word):
        # A value that is told counts even if nothing gets it.
        if word == "told":
            self._fresh += 1
        acts, spot = behind(self._body, self._spot, word, list(self._values))
        self._follow(acts, spot)

    def _use(self, use, k):
        name = self._functions[k][0]
        if use == "look":
            self._signs.append(("look", k, self._values.get(name)))
        else:
            self._values[name] = self._fresh
            self._fresh += 1
            self._signs.append(("put", k))

    def _follow(self, acts, spot):
        for act in acts:
            self._do(act)
        self._spot = spot
        self._signs.append(sign_at(self._body, spot, self._values))

    def _do(self, act):
        if act[0] == "set":
            self._values[act[1]] = self._fresh - 1
        elif act[0] == "strike":
            self._values.pop(act[1])
        elif act[0] == "catch":
            self._functions.append((act[2], act[3]))
            self._signs.append(("catch", act[1], act[3]))
        elif act[0] == "answer":
            self._signs.append(("answer", act[1], tuple([self._values[name] for name in act[2]])))
        else:
            self._signs.append(act)


def play(body, words):
    """The list of the signs of a run with a list of words."""
    run = Run(body)
    for word in words:
        run.go(word)
    return run.signs()
