"""Readers: what texts of the notation were shown from."""

from cutoutpieces.bodies import Body
from cutoutpieces.cuts import Cut
from cutoutpieces.deeds import DEEDS, is_deed
from cutoutpieces.errors import NoText, PieceError
from cutoutpieces.kinds import Kind
from cutoutpieces.notation import ENDS, show_body, show_cut, show_deed, show_kind, show_plan
from cutoutpieces.notation import show_row, show_stretch, show_words
from cutoutpieces.pieces import has_stretch_form
from cutoutpieces.plans import Plan
from cutoutpieces.rows import FORMS, is_row
from cutoutpieces.words import USES

SPOKEN = ("done", "fail", "no", "shut", "told", "yes")
DIGITS = "0123456789"
MOST_DIGITS = 40
# How many rows with lists may stand within one another.
MOST_WITHIN = 20
# By how many words these parts of a deed are told; all others by one.
WIDTHS = {"stretch": 2, "plan": 6}


def read_row(text):
    """The row that was shown as a text."""
    return read_as(text, row_from, show_row)


def read_body(text):
    """The Body that was shown as a text."""
    return read_as(text, body_from, show_body)


def read_plan(text):
    """The Plan that was shown as a text."""
    return read_as(text, plan_from, show_plan)


def read_kind(text):
    """The Kind that was shown as a text."""
    return read_as(text, kind_from, show_kind)


def read_cut(text):
    """The Cut that was shown as a text."""
    return read_as(text, cut_from, show_cut)


def read_words(text):
    """The list of the words of the world that was shown as a text."""
    return read_as(text, words_from, show_words)


def read_deed(text):
    """The deed that was shown as a text."""
    return read_as(text, deed_from, show_deed)


def read_stretch(text):
    """The stretch that was shown as a text: the word for its gap, and how many rows they are."""
    return read_as(text, stretch_from, show_stretch)


def read_as(text, parse, show):
    """What a function makes of a text, if another one shows just this text of it."""
    if not isinstance(text, str):
        raise NoText()
    try:
        thing = parse(text)
    except PieceError:
        raise NoText() from None
    # Parsing asks only for what it needs: all else that is not as it is shown comes out here.
    if show(thing) != text:
        raise NoText()
    return thing


class Lines:
    """Reads rows from lines, one behind another."""

    def __init__(self, lines):
        self._lines = lines
        self._at = 0

    def has_more(self):
        """Whether there are lines that are not read."""
        return self._at < len(self._lines)

    def row(self, outer):
        """The next row, so many rows with lists standing around it."""
        if not self.has_more():
            raise NoText()
        words = self._lines[self._at].split(" ")
        self._at += 1
        if words[0] not in FORMS:
            raise NoText()
        parts = parts_from(words)
        ends = ENDS.get(words[0], ())
        if ends and outer == MOST_WITHIN:
            raise NoText()
        return (words[0], *parts, *[self._rows_up_to(end, outer + 1) for end in ends])

    def _rows_up_to(self, end, outer):
        rows = []
        while not self._is_at(end):
            rows.append(self.row(outer))
        self._at += 1
        return tuple(rows)

    def _is_at(self, end):
        return self.has_more() and self._lines[self._at] == end


def lines_of(text):
    """The list of the lines of a text, each of which should have its end."""
    return text.split("\n")[:-1]


def parts_from(words):
    """The list of the parts of a row, those that are lists left out, from the words of its line."""
    forms = [part for part in FORMS[words[0]] if part != "rows"]
    return [part_from(part, word) for part, word in zip(forms, words[1:])]


def part_from(part, word):
    """A part of a row, from a word."""
    if part == "args":
        return tuple(parted_at_commas(word))
    return "" if word == "-" else word


def parted_at_commas(word):
    """The list of the parts of one kind that a word tells."""
    return [] if word == "-" else word.split(",")


def row_from(text):
    """The row of a text."""
    row = Lines(lines_of(text)).row(0)
    if not is_row(row):
        raise NoText()
    return row


def body_from(text):
    """The Body of a text."""
    return body_of(lines_of(text))


def body_of(lines):
    """The Body of lines."""
    words = lines[0].split(" ") if lines else []
    if len(words) != 2:
        raise NoText()
    others = Lines(lines[1:])
    rows = []
    while others.has_more():
        rows.append(others.row(0))
    return Body(parted_at_commas(words[1]), rows)


def plan_from(text):
    """The Plan of a text."""
    return plan_of(text.split(" "))


def plan_of(words):
    """The Plan of words."""
    if len(words) != 6:
        raise NoText()
    return Plan(handings_of(words[1]), handings_of(words[3]), parted_at_commas(words[5]))


def handings_of(word):
    """The dict of the handings that a word tells."""
    told = [part.partition(":") for part in parted_at_commas(word)]
    return {name: handing for name, _, handing in told}


def kind_from(text):
    """The Kind of a text."""
    words = text.split(" ")
    if len(words) != 4:
        raise NoText()
    told = [part.partition(":") for part in parted_at_commas(words[1])]
    return Kind({name: held.split("+") for name, _, held in told}, parted_at_commas(words[3]))


def cut_from(text):
    """The Cut of a text."""
    lines = lines_of(text)
    body = body_of([line for line in lines if not line.startswith("cut ")])
    return Cut(body, [deed_from(line)[1:] for line in lines if line.startswith("cut ")])


def words_from(text):
    """The list of the words of the world of a text."""
    return [word_of(part) for part in parted_at_commas(text)]


def word_of(part):
    """A word of the world."""
    if part in SPOKEN:
        return part
    use, _, number = part.partition(":")
    if use not in USES:
        raise NoText()
    return (use, number_of(number))


def number_of(word):
    """The number that a word tells."""
    if not 1 <= len(word) <= MOST_DIGITS or not all([digit in DIGITS for digit in word]):
        raise NoText()
    return int(word)


def address_of(word):
    """The tuple of the numbers of an address or a gap that a word tells."""
    return tuple([number_of(index) for index in word.split(".")])


def stretch_from(text):
    """The stretch of a text."""
    stretch = stretch_of(text.split(" "))
    if not has_stretch_form(stretch):
        raise NoText()
    return stretch


def stretch_of(words):
    """The gap and the number that words tell."""
    if len(words) != 2:
        raise NoText()
    return (address_of(words[0]), number_of(words[1]))


def deed_from(text):
    """The deed of a text."""
    line, _, rest = text.partition("\n")
    words = line.split(" ")
    if words[0] not in DEEDS:
        raise NoText()
    parts = []
    at = 1
    for part in DEEDS[words[0]]:
        width = WIDTHS.get(part, 1)
        parts.append(row_from(rest) if part == "row" else deed_part_of(part, words[at:at + width]))
        at += width
    deed = (words[0], *parts)
    if not is_deed(deed):
        raise NoText()
    return deed


def deed_part_of(part, words):
    """A part of a deed, from the words that tell it."""
    if len(words) != WIDTHS.get(part, 1):
        raise NoText()
    if part == "address":
        return address_of(words[0])
    if part == "given":
        return tuple(parted_at_commas(words[0]))
    if part == "stretch":
        return stretch_of(words)
    if part == "plan":
        return plan_of(words)
    return words[0]
