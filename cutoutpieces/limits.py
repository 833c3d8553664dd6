"""What the rows of a body and those of a piece must keep to."""

from cutoutpieces.errors import Deep, Full, Many, NoLoop, NotLast, Twice
from cutoutpieces.rows import UNMARKED, names_of_all

MOST_ROWS = 100
MOST_DEPTH = 10
MOST_NAMES = 8


def names_within_room(given, layout):
    """The ascending list of the given names and those in rows; raises Full, Deep or Many if something is too much."""
    rows = layout.all_rows()
    if len(rows) > MOST_ROWS:
        raise Full(MOST_ROWS)
    if max([len(address) for address in layout.addresses()], default=0) > 2 * MOST_DEPTH - 1:
        raise Deep(MOST_DEPTH)
    names = sorted(set([*given, *names_of_all(rows)]))
    if len(names) > MOST_NAMES:
        raise Many(MOST_NAMES)
    return names


def need_single_marks(layout):
    """Raises Twice with the least mark that stands twice in rows."""
    marks = [row[1] for row in layout.all_rows() if row[0] not in UNMARKED]
    if len(layout.at_marks) < len(marks):
        raise Twice(min([mark for mark in marks if marks.count(mark) > 1]))


def need_last(layout):
    """Raises NotLast with the least address of a row that ends its list, but is not its last one."""
    for address in layout.addresses_of(("leave", "again", "answer")):
        if address[-1] + 1 < len(layout.rows_in(address[:-1])):
            raise NotLast(address)


def need_loops(layout):
    """Raises NoLoop with the least address of a leave or an again that stands in no loop."""
    for address in layout.addresses_of(("leave", "again")):
        if not layout.in_loop(address):
            raise NoLoop(address)
