"""Bodies: given names and a list of rows."""

from cutoutpieces.errors import NoGap, NoMark, NoRow, Wrong
from cutoutpieces.layouts import Layout, spliced
from cutoutpieces.limits import names_within_room, need_last, need_loops, need_single_marks
from cutoutpieces.rows import all_frozen, are_rows, is_row, lists_of, renamed_row
from cutoutpieces.words import are_names, is_address, is_integer, is_name

MOST_GIVEN = 4


def are_given(thing):
    """Whether any value is a list or a tuple of at most four different names."""
    return are_names(thing, MOST_GIVEN) and len(set(thing)) == len(thing)


class Body:
    """A body, which never changes."""

    def __init__(self, given, rows):
        if not are_given(given):
            raise Wrong(0)
        if not are_rows(rows):
            raise Wrong(1)
        self._given = tuple(sorted(given))
        self._rows = all_frozen(rows)
        self._layout = Layout(self._rows)
        self._names = names_within_room(given, self._layout)
        need_single_marks(self._layout)
        need_last(self._layout)
        need_loops(self._layout)
        self._addresses = self._layout.addresses()
        self._at_marks = self._layout.at_marks

    @property
    def given(self):
        """The ascending tuple of the given names."""
        return self._given

    def rows(self):
        """The list of the rows."""
        return list(self._rows)

    def layout(self):
        """Where the rows stand; for the package only, it is not copied."""
        return self._layout

    def addresses(self):
        """The ascending list of the addresses of all rows."""
        return list(self._addresses)

    def row_at(self, address):
        """The row at an address."""
        if not self._layout.has_row(address):
            raise NoRow(address)
        return self._layout.row(address)

    def gaps(self):
        """The ascending list of all gaps."""
        return self._layout.gaps()

    def rows_from(self, gap):
        """The list of the rows behind a gap in its list."""
        if not self._layout.has_gap(gap):
            raise NoGap(gap)
        return list(self._layout.rows_in(gap[:-1])[gap[-1]:])

    def names(self):
        """The ascending list of the given names and of those in rows."""
        return list(self._names)

    def marks(self):
        """The ascending list of the marks."""
        return sorted(self._at_marks)

    def at_mark(self, mark):
        """The address of the row with a mark."""
        if mark not in self:
            raise NoMark(mark)
        return self._at_marks[mark]

    def __len__(self):
        return len(self._addresses)

    def __contains__(self, mark):
        return is_name(mark) and mark in self._at_marks

    def __eq__(self, other):
        return isinstance(other, Body) and self._given == other._given and self._rows == other._rows

    def put(self, gap, row):
        """The Body with a row at a gap, ahead of what stands behind it."""
        if not is_address(gap):
            raise Wrong(0)
        if not is_row(row):
            raise Wrong(1)
        if not self._layout.has_gap(gap):
            raise NoGap(gap)
        return Body(self._given, spliced(self._rows, gap, 0, [row]))

    def out(self, address):
        """The Body without a row and all that stands in its lists."""
        if not self._layout.has_row(address):
            raise NoRow(address)
        return Body(self._given, spliced(self._rows, address, 1, []))

    def opened(self, address, number):
        """The Body in which a row is replaced by the rows of its list with a number."""
        if not self._layout.has_row(address):
            raise NoRow(address)
        lists = lists_of(self._layout.row(address))
        if not is_integer(number) or not 0 <= number < len(lists):
            raise NoRow(address)
        return Body(self._given, spliced(self._rows, address, 1, lists[number]))

    def given_names(self, names):
        """The Body with these names as its given ones."""
        return Body(names, self._rows)

    def renamed(self, names, marks):
        """The Body with the names and marks that two dicts have for its own."""
        given = [names.get(name, name) for name in self._given]
        return Body(given, [renamed_row(row, names, marks) for row in self._rows])
