"""Where rows stand: the lists and the rows of a list by their addresses."""

from cutoutpieces.rows import held_as, lists_of, with_lists
from cutoutpieces.words import is_address


class Layout:
    """A list of frozen rows, with what stands in their lists, by addresses."""

    def __init__(self, rows):
        self._lists = {}
        self._rows = {}
        self._place((), tuple(rows))

    def _place(self, path, rows):
        self._lists[path] = rows
        for index, row in enumerate(rows):
            address = (*path, index)
            self._rows[address] = row
            for number, inner in enumerate(held_as(row, "rows")):
                self._place((*address, number), inner)

    def row(self, address):
        """The row at the address of one."""
        return self._rows[address]

    def rows_in(self, path):
        """The tuple of the rows of a list, which is led to by the path of its rows."""
        return self._lists[path]

    def has_row(self, thing):
        """Whether any value is the address of a row."""
        return is_address(thing) and thing in self._rows

    def has_gap(self, thing):
        """Whether any value is a gap."""
        if not is_address(thing) or thing[:-1] not in self._lists:
            return False
        return thing[-1] <= len(self._lists[thing[:-1]])

    def addresses(self):
        """The ascending list of the addresses of all rows."""
        return sorted(self._rows)

    def gaps(self):
        """The ascending list of all gaps."""
        paths = list(self._lists)
        return sorted([(*path, index) for path in paths for index in range(len(self._lists[path]) + 1)])

    def by_marks(self):
        """The dict from the marks to the addresses of their rows, in the order in which they stand."""
        found = {}
        for address in self.addresses():
            for mark in held_as(self._rows[address], "mark"):
                found[mark] = address
        return found

    def outer(self, address):
        """The list of the rows in whose lists an address stands, outer ones first.

        Each is a tuple: the first word of the row, the number of the list, the address of the row.
        """
        ends = range(1, len(address), 2)
        return [(self._rows[address[:end]][0], address[end], address[:end]) for end in ends]

    def in_loop(self, address):
        """Whether the row at an address stands in a loop, however deep."""
        return any([word == "loop" for word, number, at in self.outer(address)])

    def lasts_ending(self, address):
        """The list of the addresses of the lasts in whose endings an address stands, outer ones first."""
        return [at for word, number, at in self.outer(address) if word == "last" and number == 1]


def spliced(rows, gap, many, fresh):
    """The tuple of the rows with fresh ones at a gap, in the place of so many rows behind it."""
    at = gap[0]
    if len(gap) == 1:
        return (*rows[:at], *fresh, *rows[at + many:])
    lists = lists_of(rows[at])
    lists[gap[1]] = spliced(lists[gap[1]], gap[2:], many, fresh)
    return (*rows[:at], with_lists(rows[at], lists), *rows[at + 1:])
