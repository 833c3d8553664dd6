"""Asks: whether plans are right for a piece, in all bodies of a kind or in one body alone."""

from cutoutpieces.cuts import Cut
from cutoutpieces.errors import NoName, TooMany
from cutoutpieces.folds import Fold, leads_through
from cutoutpieces.fresh import fresh_marks
from cutoutpieces.leads import Leads
from cutoutpieces.pieces import piece_at
from cutoutpieces.plans import Plan, all_pairs, need_fit
from cutoutpieces.products import Product
from cutoutpieces.searches import is_like


def cut_at(body, stretch, plan):
    """The Cut of a body with one call."""
    return Cut(body, [(fresh_marks(body.marks())[0], stretch, plan)])


class InKind:
    """Asks of a piece in all bodies of a kind."""

    def __init__(self, piece, kind):
        self.piece = piece
        self._kind = kind
        self._leads = leads_through(piece)

    def is_right(self, plan, name, most):
        """Whether a name of the piece does not come to differ by a plan."""
        return is_like(Fold(self.piece, plan, self._kind, name, self._leads), most)


class InBody:
    """Asks of the piece at a stretch of a body, in this body alone."""

    def __init__(self, body, stretch):
        self.piece = piece_at(body, stretch)
        self._body = body
        self._stretch = stretch
        self._leads = Leads(body.layout(), [stretch])

    def is_right(self, plan, name, most):
        """Whether a name of the piece does not come to differ by a plan."""
        return is_like(Product(cut_at(self._body, self._stretch, plan), name, self._leads), most)


def pair_plan(name, pair, told):
    """The Plan that hands a single name."""
    return Plan({name: pair[0]}, {name: pair[1]}, told)


def need_name(piece, name):
    """Raises NoName for any value that is no name of a piece."""
    if name not in piece.names():
        raise NoName(name)


def need_told(piece, told):
    """Raises Untold with the least way that a plan for a piece has to tell, if told has it not."""
    need_fit(piece, Plan({}, {}, told))


def right_pairs(asks, told, name, most):
    """The list of the right pairs of a name."""
    return [pair for pair in all_pairs() if asks.is_right(pair_plan(name, pair, told), name, most)]


def first_right_pair(asks, told, name, most):
    """The first right pair of a name, None if it has none."""
    for pair in all_pairs():
        if asks.is_right(pair_plan(name, pair, told), name, most):
            return pair
    return None


def has_right_pair(asks, told, name, most):
    """Whether a name has a right pair; None if that is not known, as others have too many states."""
    unknown = False
    for pair in all_pairs():
        try:
            if asks.is_right(pair_plan(name, pair, told), name, most):
                return True
        except TooMany:
            unknown = True
    return None if unknown else False
