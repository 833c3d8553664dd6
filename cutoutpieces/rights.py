"""Rights: by which pairs of handings a name of a piece does not come to differ."""

from cutoutpieces.asks import in_body, in_kind, need_name, need_told, right_pairs


def pairs(piece, kind, told, name, *, most=20000):
    """The list of the right pairs of a name, in all bodies of a kind."""
    return pairs_of(in_kind(piece, kind), told, name, most)


def pairs_in(body, stretch, told, name, *, most=20000):
    """The list of the right pairs of a name, in one body."""
    return pairs_of(in_body(body, stretch), told, name, most)


def rights(piece, kind, told, *, most=20000):
    """The dict from the names of a piece to their right pairs, in all bodies of a kind."""
    return rights_of(in_kind(piece, kind), told, most)


def rights_in(body, stretch, told, *, most=20000):
    """The dict from the names of a piece to their right pairs, in one body."""
    return rights_of(in_body(body, stretch), told, most)


def pairs_of(asks, told, name, most):
    """The list of the right pairs of a name."""
    need_name(asks.piece, name)
    need_told(asks.piece, told)
    return right_pairs(asks, told, name, most)


def rights_of(asks, told, most):
    """The dict from the names of a piece to their right pairs."""
    need_told(asks.piece, told)
    return {name: right_pairs(asks, told, name, most) for name in asks.piece.names()}
