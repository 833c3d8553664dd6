"""The errors of the package; each keeps what it was constructed from."""


class PieceError(ValueError):
    """The class above all errors of the package."""


class Wrong(PieceError):
    """An argument, told by its place, is not as described."""

    def __init__(self, place):
        self.place = place


class Full(PieceError):
    """More rows, or deeds, than the limit."""

    def __init__(self, limit):
        self.limit = limit


class Deep(PieceError):
    """Rows stand deeper in lists within one another than the limit."""

    def __init__(self, limit):
        self.limit = limit


class Many(PieceError):
    """More different names than the limit."""

    def __init__(self, limit):
        self.limit = limit


class Twice(PieceError):
    """A mark stands twice."""

    def __init__(self, mark):
        self.mark = mark


class NotLast(PieceError):
    """A leave, an again or an answer is not the last row of its list."""

    def __init__(self, address):
        self.address = address


class NoLoop(PieceError):
    """A leave or an again stands in no loop."""

    def __init__(self, address):
        self.address = address


class NoRow(PieceError):
    """There is no such row, or it has no such list."""

    def __init__(self, address):
        self.address = address


class NoGap(PieceError):
    """There is no such gap."""

    def __init__(self, gap):
        self.gap = gap


class NoMark(PieceError):
    """There is no such mark."""

    def __init__(self, mark):
        self.mark = mark


class NoSpot(PieceError):
    """A run cannot wait there."""

    def __init__(self, at):
        self.at = at


class BadWord(PieceError):
    """A run does not take the word with this index."""

    def __init__(self, index):
        self.index = index


class NoStretch(PieceError):
    """There is no such stretch."""

    def __init__(self, stretch):
        self.stretch = stretch


class NoName(PieceError):
    """There is no such name."""

    def __init__(self, name):
        self.name = name


class Untold(PieceError):
    """A way out that is needed is not told."""

    def __init__(self, way):
        self.way = way


class BadMark(PieceError):
    """A row or an earlier call has this mark."""

    def __init__(self, mark):
        self.mark = mark


class Overlap(PieceError):
    """The call with this mark has a row in common with an earlier one."""

    def __init__(self, mark):
        self.mark = mark


class TooMany(PieceError):
    """More states than the caller allows."""

    def __init__(self, most):
        self.most = most


class BadDeed(PieceError):
    """This is no deed."""


class Refused(PieceError):
    """A deed cannot be done here."""

    def __init__(self, deed):
        self.deed = deed


class Nothing(PieceError):
    """There is nothing to take back, or to do again."""


class NoEntry(PieceError):
    """The log does not have so many deeds."""

    def __init__(self, many):
        self.many = many


class NoText(PieceError):
    """This text was shown from nothing."""


class NoCommand(PieceError):
    """This line is no command."""
