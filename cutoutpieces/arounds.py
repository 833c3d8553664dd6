"""Arounds: bodies around a piece in which a run can go a path of its fold."""

from cutoutpieces.bodies import Body
from cutoutpieces.folds import EARLY, LATE, needs_loop
from cutoutpieces.fresh import fresh_marks

# Stands among the deeds of the rows around for a row at which a run only waits.
PAUSE = ("", "pause")


class Trip:
    """What happens around a piece on a path of its fold.

    known are the names that are set at the begin, rounds is how often the piece begins, exits are the
    ways by which it is left, as far as these lead on; rests are the lists of the tuples (name, word)
    that are done by rows ahead of the first round, ahead of the second one and so on, and behind the
    last one.
    """

    def __init__(self, ground, path):
        self.known = path[0][1][1]
        self.rounds = 0
        self.exits = []
        self.rests = [[]]
        places = [state[0] for state, _ in path[1:]]
        for (state, move), following in zip(path[1:], [*places[1:], None]):
            self._take(ground, state, move, following)

    def _take(self, ground, state, move, following):
        outside = state[0] == EARLY or state[0] == LATE
        if move[0] == "row":
            self.rests[-1].append((move[1], move[2]))
        elif move[0] != "word" and outside:
            self.rests[-1].append(PAUSE)
        elif move[0] == "word":
            if outside:
                self.rounds += 1
            if following == EARLY or following == LATE:
                self.exits.append(ground.way_behind(state[0], state[1], move[1]))
                self.rests.append([])


class Around:
    """Rows around a piece."""

    def __init__(self, piece):
        self._rows = piece.rows()
        self._gap = (0,)
        self._many = len(self._rows)
        self._marks = fresh_marks(piece.marks())

    def wrap(self, word, others):
        """Puts all rows into the list 0 of a row, others being its list 1."""
        if word == "loop":
            self._rows = [("loop", self._marks.pop(), self._rows)]
        else:
            self._rows = [(word, self._rows, others)]
        self._gap = (0, 0, *self._gap)

    def flank(self, ahead, behind):
        """Puts rows ahead of all rows, and others behind them."""
        self._rows = [*ahead, *self._rows, *behind]
        self._gap = (self._gap[0] + len(ahead), *self._gap[1:])

    def made(self, given):
        """A tuple: the Body of the rows, with these given names, and the stretch of the piece."""
        return Body(given, self._rows), (self._gap, self._many)

    def rows_for(self, deeds):
        """The list of the rows that do what tuples (name, word) tell."""
        return [self._row_for(name, word) for name, word in deeds]

    def choices_for(self, rests):
        """The list of the ifs in which these lists of deeds are done."""
        return [("if", self._marks.pop(), self.rows_for(deeds), []) for deeds in rests if deeds]

    def _row_for(self, name, word):
        mark = self._marks.pop()
        if word == "strike":
            return ("strike", mark, name)
        if word == "look" or word == "put":
            return ("catch", mark, name, word)
        return ("do", mark, [name] if word == "read" else [], name if word == "set" else "")


def body_around(piece, kind, ground, path):
    """A tuple: a Body of the kind in which a run can go a path of a fold of the piece, and the piece's stretch."""
    trip = Trip(ground, path)
    around = Around(piece)
    ahead = around.rows_for(trip.rests[0])
    behind = around.rows_for(trip.rests[trip.rounds]) if len(trip.exits) == trip.rounds else []
    looped = trip.rounds > 1 or needs_loop(piece)
    lasting = [way for way in trip.exits if way in ("answer", "shut") or (way == "fail" and "guard" not in kind.around)]
    if lasting and not looped:
        around.wrap("last", behind)
        behind = []
    elif lasting:
        around.wrap("last", [("again",)])
    elif "fail" in trip.exits:
        around.wrap("guard", [])
    if looped:
        around.flank(around.choices_for(trip.rests[1:trip.rounds]), [])
        around.wrap("loop", [])
    # What leaves the inner loop comes again by an outer one.
    if not lasting and "leave" in trip.exits[:trip.rounds - 1]:
        around.wrap("loop", [])
    around.flank(ahead, behind)
    return around.made(trip.known)
