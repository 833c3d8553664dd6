"""Machines: what runs of a body, and of a cut of it, have in common."""

from cutoutpieces.callwalks import CallWalk
from cutoutpieces.errors import BadWord, Nothing
from cutoutpieces.spots import words_from
from cutoutpieces.words import is_integer

# The number of the variables of the body; those of frames have the numbers
# from 1 on, in the order in which they begin.
BODY = 0


def takes_use(functions, thing):
    """Whether any value is a use of one of the functions that were handed out, told as (name, use, frame)."""
    if not isinstance(thing, tuple) or len(thing) != 2:
        return False
    use, k = thing
    return is_integer(k) and 0 <= k < len(functions) and functions[k][1] == use


def sign_at(layout, spot, values):
    """The sign behind which a run waits, values being the dict from the names that are set."""
    address, pending = spot
    if address == ():
        return ("end", pending[0])
    row = layout.row(address)
    if row[0] == "if" or row[0] == "loop":
        return ("ask", row[1])
    if row[0] == "strike":
        return ("strike", row[1], values[row[2]])
    return (row[0], row[1], tuple([values[name] for name in row[2]]))


class Machine:
    """Does a body with calls in it, perhaps none, word by word.

    taken are the words, seen the signs, at is the spot, going the number of the
    frame that goes on, or that of the body if none does.
    """

    def __init__(self, body, calls):
        self.taken = []
        self.seen = []
        self.at = None
        self.going = BODY
        self._layout = body.layout()
        self._calls = calls
        self._past = []
        self._frames = 0
        self._functions = []
        self._values = {BODY: {name: value for value, name in enumerate(body.given)}}
        self._fresh = len(body.given)
        walk = self._walk(())
        walk.begin()
        self._follow(walk)

    def held_in(self, frame):
        """The dict from the names that are set in a frame, or in the body, to their values."""
        values = self._values[frame]
        return {name: values[name] for name in sorted(values)}

    def go(self, word):
        """Takes a word, and returns the list of the signs that it brings."""
        told = isinstance(word, str) and word in words_from(self._layout, self.at[0])
        if not told and not takes_use(self._functions, word):
            raise BadWord(len(self.taken))
        many = len(self.seen)
        self._keep()
        self.taken.append(word)
        if told:
            self._tell(word)
        else:
            self._use(word[0], word[1])
        return self.seen[many:]

    def back(self):
        """Takes the last word back, and returns it."""
        if len(self.taken) == 0:
            raise Nothing()
        self.at, self.going, self._frames, self._fresh, handed, seen, self._values = self._past.pop()
        self._functions = self._functions[:handed]
        self.seen = self.seen[:seen]
        return self.taken.pop()

    def _keep(self):
        values = {frame: dict(self._values[frame]) for frame in self._values}
        handed, seen = len(self._functions), len(self.seen)
        self._past.append((self.at, self.going, self._frames, self._fresh, handed, seen, values))

    def _walk(self, pending):
        names = list(self.held_in(self.going))
        caller = None if self.going == BODY else {name: True for name in self.held_in(BODY)}
        return CallWalk(self._layout, self._calls, names, caller, pending)

    def _tell(self, word):
        # A value that is told counts even if nothing gets it.
        if word == "told":
            self._fresh += 1
        address, pending = self.at
        walk = self._walk(pending)
        walk.go(address, word)
        self._follow(walk)

    def _use(self, use, k):
        name, _, frame = self._functions[k]
        if use == "look":
            self.seen.append(("look", k, self._values[frame].get(name)))
        else:
            self._values[frame][name] = self._fresh
            self._fresh += 1
            self.seen.append(("put", k))

    def _follow(self, walk):
        for act in walk.acts:
            self._do(act)
        self.at = walk.stop
        self.seen.append(sign_at(self._layout, self.at, self.held_in(self.going)))

    def _do(self, act):
        word = act[0]
        if word == "set":
            self._values[self.going][act[1]] = self._fresh - 1
        elif word == "strike":
            self._values[self.going].pop(act[1])
        elif word == "catch":
            self._functions.append((act[2], act[3], self.going))
            self.seen.append(("catch", act[1], act[3]))
        elif word == "answer":
            values = self.held_in(self.going)
            self.seen.append(("answer", act[1], tuple([values[name] for name in act[2]])))
        elif word == "in":
            self._begin_frame(self._calls[act[1]][2].ins())
        elif word == "out":
            self._end_frame(self._calls[act[1]][2].backs() if act[2] else {})
        else:
            self.seen.append(act)

    def _begin_frame(self, names):
        self._frames += 1
        self.going = self._frames
        self._values[self.going] = {}
        self._hand(names, BODY, self.going)

    def _end_frame(self, names):
        self._hand(names, self.going, BODY)
        self.going = BODY

    def _hand(self, names, giver, taker):
        given, taken = self._values[giver], self._values[taker]
        for name in names:
            if name in given:
                taken[name] = given[name]
            else:
                taken.pop(name, None)
