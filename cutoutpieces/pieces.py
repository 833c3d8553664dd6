"""Pieces: rows, one behind another, that can be cut out of a body."""

from cutoutpieces.errors import NoStretch, Wrong
from cutoutpieces.layouts import Layout
from cutoutpieces.limits import names_within_room, need_last, need_single_marks
from cutoutpieces.rows import all_frozen, are_rows
from cutoutpieces.words import is_address, is_integer


class Piece:
    """A piece, which never changes."""

    def __init__(self, rows):
        if not are_rows(rows) or len(rows) == 0:
            raise Wrong(0)
        self._rows = all_frozen(rows)
        self._layout = Layout(self._rows)
        self._names = names_within_room([], self._layout)
        need_single_marks(self._layout)
        need_last(self._layout)
        self._addresses = self._layout.addresses()

    def rows(self):
        """The list of the rows."""
        return list(self._rows)

    def layout(self):
        """Where the rows stand; for the package only, it is not copied."""
        return self._layout

    def names(self):
        """The ascending list of the names."""
        return list(self._names)

    def marks(self):
        """The ascending list of the marks."""
        return sorted(self._layout.at_marks)

    def ways(self):
        """The ascending list of the ways out by which the rows can be left by their form."""
        return ways_of(self._rows)

    def __len__(self):
        return len(self._addresses)

    def __eq__(self, other):
        return isinstance(other, Piece) and self._rows == other._rows


def ways_of(rows):
    """The ascending list of the ways out by which a list of rows can be left by its form."""
    found = {"end": True}
    for row in rows:
        ways = row_ways(row)
        found.update({way: True for way in ways})
        if "end" not in ways:
            found.pop("end")
            return sorted(found)
    return sorted(found)


def row_ways(row):
    """The list of the ways out by which a row can be left, some perhaps twice."""
    word = row[0]
    if word == "catch":
        return ["end"]
    if word == "do" or word == "strike":
        return ["end", "fail"]
    if word == "yield":
        return ["end", "fail", "shut"]
    if word == "answer":
        return ["answer", "fail"] if len(row[2]) > 0 else ["answer"]
    if word == "if":
        return [*ways_of(row[2]), *ways_of(row[3]), "fail"]
    if word == "loop":
        return ["end", "fail", *ways_without(ways_of(row[2]), ("end", "again", "leave"))]
    if word == "guard":
        return guard_ways(ways_of(row[1]), ways_of(row[2]))
    if word == "last":
        return last_ways(ways_of(row[1]), ways_of(row[2]))
    return [word]


def ways_without(ways, others):
    """The list of the ways that are none of the others."""
    return [way for way in ways if way not in others]


def guard_ways(ways, other):
    """The ways of a guard, from those of its two lists."""
    if "fail" not in ways:
        return ways
    return [*ways_without(ways, ("fail",)), *other]


def last_ways(ways, ending):
    """The ways of a last, from those of its two lists."""
    if "end" not in ending:
        return ending
    return [*ways, *ways_without(ending, ("end",))]


def has_stretch_form(thing):
    """Whether any value is a tuple of an address and an integer from 1 on."""
    if not isinstance(thing, tuple) or len(thing) != 2:
        return False
    return is_address(thing[0]) and is_integer(thing[1]) and thing[1] >= 1


def is_stretch(body, thing):
    """Whether any value is a stretch of a body."""
    return has_stretch_form(thing) and body.layout().has_rows(thing[0], thing[1])


def stretches(body):
    """The ascending list of all stretches of a body."""
    found = []
    for gap in body.gaps():
        found.extend([(gap, many) for many in range(1, len(body.rows_from(gap)) + 1)])
    return found


def piece_at(body, stretch):
    """The Piece of the rows of a stretch of a body."""
    if not is_stretch(body, stretch):
        raise NoStretch(stretch)
    return Piece(rows_at(body, stretch))


def rows_at(body, stretch):
    """The tuple of the rows of a stretch of a body."""
    gap, many = stretch
    return body.layout().rows_in(gap[:-1])[gap[-1]:gap[-1] + many]


def stands_in(address, stretch):
    """Whether an address leads to one of the rows of a stretch, or into their lists."""
    gap, many = stretch
    at = len(gap) - 1
    return address[:at] == gap[:at] and gap[at] <= address[at] < gap[at] + many
