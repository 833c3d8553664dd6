"""Desks: books that are worked with by lines of text."""

from cutoutpieces.book import Book
from cutoutpieces.cutting import play_cut
from cutoutpieces.errors import BadWord, Full, NoCommand, NoStretch, NoText, Nothing, Refused, TooMany
from cutoutpieces.kinds import kind_of
from cutoutpieces.leasts import least_plans_in
from cutoutpieces.notation import joined, show_body, show_cut, show_deed, show_kind, show_plan, show_signs, show_words
from cutoutpieces.pieces import piece_at
from cutoutpieces.playing import play
from cutoutpieces.readers import read_deed, read_stretch, read_words


class Desk:
    """A book, and what is answered to lines."""

    def __init__(self, body):
        # The book raises Wrong for what is no Body.
        self._book = Book(body)

    def execute(self, line):
        """The answer to a line, which may be any value."""
        if not isinstance(line, str):
            raise NoCommand()
        try:
            return self._answer(line)
        except NoText:
            raise NoCommand() from None
        except (Full, Refused, Nothing, TooMany, BadWord, NoStretch):
            return "refused"

    def _answer(self, line):
        word, blank, rest = line.partition(" ")
        if blank == "":
            return self._answer_word(word)
        if word == "play":
            return show_signs(play(self._book.cut.body, read_words(rest)))
        if word == "playcut":
            return show_signs(play_cut(self._book.cut, read_words(rest)))
        if word == "ways" or word == "kind" or word == "least":
            return self._answer_of_piece(word, read_stretch(rest))
        self._book.do(read_deed(line))
        return "ok"

    def _answer_word(self, word):
        if word == "undo":
            return show_deed(self._book.undo())
        if word == "redo":
            return show_deed(self._book.redo())
        if word == "body":
            return show_body(self._book.cut.body)
        if word == "cut":
            return show_cut(self._book.cut)
        if word == "log":
            return str(len(self._book))
        if word == "same":
            return "yes" if self._book.is_same() else "no"
        if word == "parting":
            words = self._book.parting()
            return "same" if words is None else show_words(words)
        raise NoText()

    def _answer_of_piece(self, word, stretch):
        body = self._book.cut.body
        if word == "ways":
            return joined(piece_at(body, stretch).ways())
        if word == "kind":
            return show_kind(kind_of(body, stretch))
        plans = least_plans_in(body, stretch)
        return ";".join([show_plan(plan) for plan in plans]) if plans else "never"
