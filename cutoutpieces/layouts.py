"""Where rows stand: the lists and the rows of a list by their addresses."""

from cutoutpieces.rows import UNMARKED, inner_lists, lists_of, reads, with_lists
from cutoutpieces.words import is_address


class Layout:
    """A list of frozen rows, with what stands in their lists, by addresses.

    by_address is the dict to the rows, needed_at that to the lists of the names that they need, at_marks that from the
    marks to the addresses. They are not copied where they are read.
    """

    def __init__(self, rows):
        self._lists = {}
        # Rows come ahead of those in their lists, so that the addresses are ascending.
        self.by_address = {}
        self.needed_at = {}
        self._place((), rows)
        self.at_marks = {row[1]: address for address, row in self.by_address.items() if row[0] not in UNMARKED}

    def _place(self, path, rows):
        self._lists[path] = rows
        for index, row in enumerate(rows):
            address = (*path, index)
            self.by_address[address] = row
            self.needed_at[address] = reads(row)
            for number, inner in enumerate(inner_lists(row)):
                self._place((*address, number), inner)

    def row(self, address):
        """The row at the address of one."""
        return self.by_address[address]

    def needs_ahead(self, mark, name):
        """The list of the names that the row with a mark needs ahead of another one that it needs."""
        needed = self.needed_at[self.at_marks[mark]]
        return needed[:needed.index(name)]

    def rows_in(self, path):
        """The tuple of the rows of a list, which is led to by the path of its rows."""
        return self._lists[path]

    def all_rows(self):
        """The list of all rows, those in lists too, in the order of their addresses."""
        return list(self.by_address.values())

    def has_row(self, thing):
        """Whether any value is the address of a row."""
        return is_address(thing) and thing in self.by_address

    def has_gap(self, thing):
        """Whether any value is a gap."""
        if not is_address(thing) or thing[:-1] not in self._lists:
            return False
        return thing[-1] <= len(self._lists[thing[:-1]])

    def has_rows(self, gap, many):
        """Whether so many rows, one or more, stand behind any address in its list, if this is a gap."""
        return gap[:-1] in self._lists and gap[-1] + many <= len(self._lists[gap[:-1]])

    def addresses(self):
        """The ascending list of the addresses of all rows."""
        return list(self.by_address)

    def addresses_of(self, words):
        """The ascending list of the addresses of the rows that begin with one of the words of a tuple."""
        return [address for address, row in self.by_address.items() if row[0] in words]

    def gaps(self):
        """The ascending list of all gaps."""
        paths = list(self._lists)
        return sorted([(*path, index) for path in paths for index in range(len(self._lists[path]) + 1)])

    def outer(self, address):
        """The list of the rows in whose lists an address stands, outer ones first.

        Each is a tuple: the first word of the row, the number of the list, the address of the row.
        """
        ends = range(1, len(address), 2)
        return [(self.by_address[address[:end]][0], address[end], address[:end]) for end in ends]

    def in_loop(self, address):
        """Whether the row at an address stands in a loop, however deep."""
        return any([word == "loop" for word, number, at in self.outer(address)])

    def lasts_ending(self, address):
        """The list of the addresses of the lasts in whose endings an address stands, outer ones first."""
        return [at for word, number, at in self.outer(address) if word == "last" and number == 1]


def spliced(rows, gap, many, fresh):
    """The tuple of the rows with fresh ones at a gap, in the place of so many rows behind it."""
    at = gap[0]
    if len(gap) == 1:
        return (*rows[:at], *fresh, *rows[at + many:])
    lists = lists_of(rows[at])
    lists[gap[1]] = spliced(lists[gap[1]], gap[2:], many, fresh)
    return (*rows[:at], with_lists(rows[at], lists), *rows[at + 1:])
