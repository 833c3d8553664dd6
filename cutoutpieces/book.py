"""Books: cuts that are edited, deed by deed."""

from cutoutpieces.bodies import Body
from cutoutpieces.cuts import Cut
from cutoutpieces.deeds import done, is_deed, kept_deed
from cutoutpieces.errors import BadDeed, Full, NoEntry, Nothing, PieceError, Refused, Wrong
from cutoutpieces.products import is_same, parting


class Book:
    """A cut that is edited, and the log of the deeds.

    Behind each deed of the log stands the cut to which it has led; ahead of them all the body
    without calls.
    """

    MOST = 200

    def __init__(self, body):
        if not isinstance(body, Body):
            raise Wrong(0)
        self._first = body
        self._cuts = (Cut(body, []),)
        self._log = ()
        self._undone = ()

    @property
    def first(self):
        """The body with which the book was made."""
        return self._first

    @property
    def cut(self):
        """The Cut as it is."""
        return self._cuts[-1]

    def do(self, deed):
        """Does a deed."""
        if not is_deed(deed):
            raise BadDeed()
        if len(self._log) >= Book.MOST:
            raise Full(Book.MOST)
        self._enter(kept_deed(deed))
        self._undone = ()

    def _enter(self, deed):
        """Does a deed and writes it into the log; the deeds that were undone stay."""
        try:
            following = done(self._cuts[-1], deed)
        except PieceError:
            raise Refused(deed) from None
        self._cuts = (*self._cuts, following)
        self._log = (*self._log, deed)

    def undo(self):
        """Undoes the last deed, and returns it."""
        if len(self._log) == 0:
            raise Nothing()
        deed = self._log[-1]
        self._undone = (*self._undone, deed)
        self._log = self._log[:-1]
        self._cuts = self._cuts[:-1]
        return deed

    def redo(self):
        """Does the deed again that was undone last, and returns it."""
        if len(self._undone) == 0:
            raise Nothing()
        deed = self._undone[-1]
        self._enter(deed)
        self._undone = self._undone[:-1]
        return deed

    def past(self, many):
        """The Book of the first body that has done the first many deeds of the log."""
        if not 0 <= many <= len(self._log):
            raise NoEntry(many)
        book = Book(self._first)
        for deed in self.log()[:many]:
            book.do(deed)
        return book

    def copied(self):
        """A Book in the same state that goes on by itself."""
        book = Book(self._first)
        book._cuts = self._cuts
        book._log = self._log
        book._undone = self._undone
        return book

    def trial(self, act):
        """What act returns of this Book, which is then as it was ahead."""
        cuts, log, undone = self._cuts, self._log, self._undone
        try:
            return act(self)
        finally:
            self._cuts, self._log, self._undone = cuts, log, undone

    def log(self):
        """The list of the deeds."""
        return list(self._log)

    def is_same(self, *, most=20000):
        """Whether the body and the cut are the same."""
        return is_same(self._cuts[-1], most=most)

    def parting(self, *, most=20000):
        """A shortest list of words that parts the cut from the body, None if they are the same."""
        return parting(self._cuts[-1], most=most)

    def __len__(self):
        return len(self._log)

    def __contains__(self, mark):
        return mark in self._cuts[-1]

    def __getitem__(self, mark):
        return self._cuts[-1].call(mark)[2]

    def __setitem__(self, mark, plan):
        self.do(("plan", mark, plan))

    def __iter__(self):
        raise TypeError("a Book is not iterated over")

    def __eq__(self, other):
        return isinstance(other, Book) and self._first == other._first and self._log == other._log
