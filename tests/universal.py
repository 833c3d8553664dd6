"""For tests: bodies that may do, around a piece, all that bodies of a kind may do."""

from cutoutpieces.bodies import Body
from cutoutpieces.pieces import stands_in
from samples import mark


class Universal:
    """Makes the bodies for a piece and a kind, which has no other names; marks beginning with m stand in no piece."""

    def __init__(self, piece, kind):
        self.piece, self.kind, self.marks = piece, kind, 0

    def mark(self):
        self.marks += 1
        return "u" + mark(self.marks)

    def row(self, name, word):
        if word == "read":
            return ("do", self.mark(), [name], "")
        if word == "set":
            return ("do", self.mark(), [], name)
        if word == "strike":
            return ("strike", self.mark(), name)
        return ("catch", self.mark(), name, word)

    def rows(self):
        """Rows that do what the words tell, any number of times, in any order."""
        done = [("if", self.mark(), [self.row(name, word)], [])
                for name in self.piece.names() for word in self.kind.of(name) if word != "unset"]
        return [("loop", self.mark(), [("guard", done, [])])]

    def around(self):
        """A list of rows with the piece in it, and the address at which the piece stands."""
        rows, gap = self.piece.rows(), ()
        if "guard" in self.kind.around:
            rows, gap = [("guard", rows, [])], (0, 0, *gap)
        if "last" in self.kind.around:
            rows, gap = [("last", rows, [("again",)] if "loop" in self.kind.around else self.rows())], (0, 0, *gap)
        if "loop" in self.kind.around:
            # Two loops, for a piece that leaves one may come again in the other.
            looped = [("loop", self.mark(), [("loop", self.mark(), [*self.rows(), *rows])])]
            return looped, (0, 0, 0, 0, 1, *gap[1:], 0) if gap else (0, 0, 0, 0, 1)
        behind = [] if rows[-1][0] in ("leave", "again", "answer") else self.rows()
        return [*self.rows(), *rows, *behind], (1, *gap[1:], 0) if gap else (1,)

    def givens(self):
        """The lists of the names that may be given."""
        found = [[]]
        for name in self.piece.names():
            more = [[*given, name] for given in found]
            found = found + more if "unset" in self.kind.of(name) else more
        return found

    def bodies(self):
        """The list of the tuples (body, stretch)."""
        rows, gap = self.around()
        return [(Body(given, rows), (gap, len(self.piece.rows()))) for given in self.givens()]


def place_of(body, stretch, spot):
    """The place of a fold for a spot of a body made here."""
    address, pending = spot
    gap = stretch[0]
    if address == ():
        return "over"
    if stands_in(address, stretch):
        within = len(gap) - 1
        inner = (address[within] - gap[within], *address[within + 1:])
        return inner, pending[len(pending) - endings(body, inner, address):]
    return "early" if address < gap else "late"


def endings(body, inner, address):
    """In how many endings of the piece an address stands."""
    outside = len(address) - len(inner)
    return sum(1 for end in range(outside + 1, len(address), 2)
               if body.row_at(address[:end])[0] == "last" and address[end] == 1)
