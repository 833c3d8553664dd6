"""Lean: bodies that part a piece from its cut, in which no row is to spare."""

from cutoutpieces.arounds import body_around
from cutoutpieces.asks import cut_at
from cutoutpieces.errors import PieceError
from cutoutpieces.folds import fold_ground, fold_world
from cutoutpieces.pieces import piece_at, stands_in
from cutoutpieces.plans import need_fit
from cutoutpieces.products import is_same, parting
from cutoutpieces.rows import lists_of
from cutoutpieces.searches import path_of
from cutoutpieces.shifts import behind_row, leads_into, lifted, shifted

# For bodies that are made here: which states they have is not the caller's business.
NO_LIMIT = 1000000000


def leaner(body, stretch):
    """The list of the tuples (body, stretch) that are leaner by a step."""
    piece_at(body, stretch)
    outside = [address for address in body.addresses() if not stands_in(address, stretch)]
    return [less for address in outside for less in leaner_at(body, stretch, address)]


def leaner_at(body, stretch, address):
    """The list of those that are leaner by the row at an address."""
    gap, many = stretch
    found = []
    for number, following in lessenings(gap, address, lists_of(body.row_at(address))):
        try:
            less = body.out(address) if number is None else body.opened(address, number)
        except PieceError:
            continue
        found.append((less, (following, many)))
    return found


def lessenings(gap, address, lists):
    """The list of the tuples (number, gap): by which list a row may be opened, None if it is left out.

    gap is the one ahead of the piece, and the one that it comes to be.
    """
    if leads_into(gap, address):
        return [(gap[len(address)], lifted(gap, address))]
    behind = behind_row(address)
    opened = [(number, shifted(gap, behind, len(rows) - 1)) for number, rows in enumerate(lists) if rows]
    return [(None, shifted(gap, behind, -1)), *opened]


def is_lean(body, stretch, plan, *, most=20000):
    """Whether a body is not the same as its cut, while all leaner ones are."""
    need_fit(piece_at(body, stretch), plan)
    if is_same(cut_at(body, stretch, plan), most=most):
        return False
    return first_parted(leaner(body, stretch), plan, most) is None


def first_parted(pairs, plan, most):
    """The first of several tuples (body, stretch) that is not the same as its cut, None if none is."""
    for body, stretch in pairs:
        if not is_same(cut_at(body, stretch, plan), most=most):
            return body, stretch
    return None


def parted_body(piece, plan, kind, *, most=20000):
    """None if the piece holds; otherwise a lean Body of the kind, the piece's stretch, and words that part it."""
    need_fit(piece, plan)
    ground = fold_ground(piece, kind)
    for name in piece.names():
        path = path_of(fold_world(ground, plan, name), most)
        if path is not None:
            body, stretch = made_lean(body_around(piece, kind, ground, path), plan)
            return body, stretch, parting(cut_at(body, stretch, plan), most=NO_LIMIT)
    return None


def made_lean(parted, plan):
    """The last of the tuples (body, stretch) that are parted, each leaner than the one ahead, from this one on."""
    leanest = parted
    while parted is not None:
        leanest = parted
        parted = first_parted(leaner(leanest[0], leanest[1]), plan, NO_LIMIT)
    return leanest
