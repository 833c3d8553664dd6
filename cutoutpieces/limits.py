"""What the rows of a body and those of a piece must keep to."""

from cutoutpieces.errors import Deep, Full, Many, NoLoop, NotLast, Twice
from cutoutpieces.rows import count, depth, marks_in, names_in

MOST_ROWS = 100
MOST_DEPTH = 10
MOST_NAMES = 8


def need_room(given, rows):
    """Raises Full, Deep or Many if rows, with given names, are more than there may be."""
    if count(rows) > MOST_ROWS:
        raise Full(MOST_ROWS)
    if depth(rows) > MOST_DEPTH:
        raise Deep(MOST_DEPTH)
    if len(set([*given, *names_in(rows)])) > MOST_NAMES:
        raise Many(MOST_NAMES)


def need_single_marks(rows):
    """Raises Twice with the least mark that stands twice in rows."""
    marks = sorted(marks_in(rows))
    for mark, following in zip(marks, marks[1:]):
        if mark == following:
            raise Twice(mark)


def need_last(layout):
    """Raises NotLast with the least address of a row that ends its list, but is not its last one."""
    for address in layout.addresses():
        behind_it = (*address[:-1], address[-1] + 1)
        if layout.row(address)[0] in ("leave", "again", "answer") and layout.has_row(behind_it):
            raise NotLast(address)


def need_loops(layout):
    """Raises NoLoop with the least address of a leave or an again that stands in no loop."""
    for address in layout.addresses():
        if layout.row(address)[0] in ("leave", "again") and not layout.in_loop(address):
            raise NoLoop(address)
