"""Cells: what the variables of one name are in a cut, beside the one of the body.

A cell is a tuple (sign, look, put). The cells of a name are a tuple of those of
the cut body's variable, of that of the frame that goes on and of that of one
frame that is over, and whether some function can put a further one.
"""

BODY = 0
FRAME = 1
ELDER = 2
OTHERS = 3

SIGNS = ("=", "+", "-")
FIRST = (("=", False, False), (), (), False)


def going(cells):
    """The place of the cell through which rows are done."""
    return BODY if cells[FRAME] == () else FRAME


def sign_of(cells):
    """The sign of the cell through which rows are done."""
    return cells[going(cells)][0]


def with_sign(cell, sign):
    """A cell with another sign, () if there is none."""
    return () if cell == () else (sign, cell[1], cell[2])


def with_use(cell, use):
    """A cell that functions with this use hold, too."""
    return (cell[0], cell[1] or use == "look", cell[2] or use == "put")


def changed(cells, place, signs):
    """The cells, if that at a place agrees from now on, and the others get the signs that a dict has for theirs."""
    found = []
    for other, cell in enumerate(cells[:OTHERS]):
        if cell == () or other == place:
            found.append(with_sign(cell, "="))
        else:
            found.append(with_sign(cell, signs[cell[0]]))
    return (*found, cells[OTHERS])


def set_at(cells, place, was_set):
    """The cells behind a set through the cell at a place; OTHERS stands for none of the three."""
    return changed(cells, place, {"=": "+" if was_set else "-", "+": "+", "-": "-"})


def struck(cells):
    """The cells behind a strike."""
    return changed(cells, going(cells), {"=": "+", "+": "+", "-": "="})


def caught(cells, use):
    """The cells behind a catch."""
    place = going(cells)
    return (*cells[:place], with_use(cells[place], use), *cells[place + 1:])


def called(cells, handing, is_set):
    """The cells behind the begin of a call to which the name is handed in so."""
    body, _, elder, others = cells
    if handing == "none":
        return (body, ("-" if is_set else "=", False, False), elder, others)
    return (body, (body[0], False, False), elder, others)


def returned(cells, handing):
    """The list of the tuples (cells, watched) behind a call from which the name is handed back so.

    watched is whether the frame is watched from then on.
    """
    body, frame, elder, others = cells
    if handing != "none":
        body = with_sign(body, frame[0])
    _, look, put = frame
    found = [((body, (), elder, others or put), False)]
    if look or put:
        found.append(((body, (), frame, others or can_put(elder)), True))
    return found


def can_put(cell):
    """Whether functions can put what a cell tells of, if there is one."""
    return cell != () and cell[2]


def puttable(cells):
    """The list of the places through which functions can put, OTHERS for those of further frames."""
    places = [place for place, cell in enumerate(cells[:OTHERS]) if can_put(cell)]
    return [*places, OTHERS] if cells[OTHERS] else places


def betrayed(cells):
    """The list of the places at which the world can look and sees something unlike."""
    return [place for place, cell in enumerate(cells[:OTHERS]) if cell != () and cell[1] and cell[0] != "="]


def is_cell(thing):
    """Whether any value is a cell by its form."""
    if not isinstance(thing, tuple) or len(thing) != 3:
        return False
    sign, look, put = thing
    return sign in SIGNS and isinstance(look, bool) and isinstance(put, bool)


def is_no_cell(thing):
    """Whether any value is what stands in the place of a cell that there is not."""
    return isinstance(thing, tuple) and len(thing) == 0


def are_cells(thing, is_called, is_set):
    """Whether any value is the cells of a name, set or not, where a call goes on, or where none does."""
    if not isinstance(thing, tuple) or len(thing) != 4 or not isinstance(thing[OTHERS], bool):
        return False
    body, frame, elder, _ = thing
    if is_no_cell(frame) == is_called:
        return False
    there = [body, *[cell for cell in (frame, elder) if not is_no_cell(cell)]]
    return all([is_cell(cell) and (is_set or cell[0] != "-") for cell in there])
