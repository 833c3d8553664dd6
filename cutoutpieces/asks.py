"""Asks: which pairs of handings are right for a name of a piece, in all bodies of a kind or in one body alone."""

from cutoutpieces.cuts import Cut
from cutoutpieces.errors import NoName, TooMany
from cutoutpieces.folds import fold_ground
from cutoutpieces.fresh import fresh_marks
from cutoutpieces.pieces import piece_at
from cutoutpieces.plans import Plan, all_pairs, need_fit
from cutoutpieces.products import ground_of
from cutoutpieces.searches import CROWDED, PARTED, searched
from cutoutpieces.sides import UNLIKE, UNSET_BACK, UNSET_IN
from cutoutpieces.trails import Trail
from cutoutpieces.worlds import World


def cut_at(body, stretch, plan):
    """The Cut of a body with one call."""
    return Cut(body, [(fresh_marks(body.marks())[0], stretch, plan)])


class Asks:
    """Asks of the names of a piece on a ground."""

    def __init__(self, piece, ground):
        self.piece = piece
        self._ground = ground

    def trials(self, told, name, most):
        """The Trials for a name with these told ways."""
        return Trials(Trail(self._ground, name), told, most)


def in_kind(piece, kind):
    """Asks of a piece in all bodies of a kind."""
    return Asks(piece, fold_ground(piece, kind))


def in_body(body, stretch):
    """Asks of the piece at a stretch of a body, in this body alone."""
    return Asks(piece_at(body, stretch), ground_of(body, [stretch]))


class Trials:
    """Tries pairs of handings for one name, with the same told ways.

    What is handed by value leads to the same states as what is handed by state. So it is searched once for both, and
    it is kept whether the name was unset where it was handed, which is unlike if it is handed by value.
    """

    def __init__(self, trail, told, most):
        self._trail = trail
        self._told = told
        self._most = most
        self._kept = {}

    def is_right(self, pair):
        """Whether the name does not come to differ by a pair; raises TooMany if that is not known."""
        end, unlike = self._searched(pair[0] != "none", pair[1] != "none")
        if end == PARTED:
            return False
        if (pair[0] == "value" and unlike & UNSET_IN) or (pair[1] == "value" and unlike & UNSET_BACK):
            return False
        if end == CROWDED:
            raise TooMany(self._most)
        return True

    def _searched(self, is_in, is_back):
        """A tuple: how the search ends if the name is handed in, and back, or is not, and what is unlike in it."""
        if (is_in, is_back) not in self._kept:
            pair = ("value" if is_in else "none", "value" if is_back else "none")
            end, unlike, _, _ = searched(World(self._trail, [(pair, self._told)]), self._most, UNLIKE)
            self._kept[is_in, is_back] = (end, unlike)
        return self._kept[is_in, is_back]


def pair_plan(name, pair, told):
    """The Plan that hands a single name."""
    return Plan({name: pair[0]}, {name: pair[1]}, told)


def need_name(piece, name):
    """Raises NoName for any value that is no name of a piece."""
    if name not in piece.names():
        raise NoName(name)


def need_told(piece, told):
    """Raises Untold with the least way that a plan for a piece has to tell, if told has it not."""
    need_fit(piece, Plan({}, {}, told))


def right_pairs(asks, told, name, most):
    """The list of the right pairs of a name."""
    trials = asks.trials(told, name, most)
    return [pair for pair in all_pairs() if trials.is_right(pair)]


def first_right_pair(asks, told, name, most):
    """The first right pair of a name, None if it has none."""
    trials = asks.trials(told, name, most)
    for pair in all_pairs():
        if trials.is_right(pair):
            return pair
    return None


def has_right_pair(asks, told, name, most):
    """Whether a name has a right pair; None if that is not known, as others have too many states."""
    trials = asks.trials(told, name, most)
    unknown = False
    for pair in all_pairs():
        try:
            if trials.is_right(pair):
                return True
        except TooMany:
            unknown = True
    return None if unknown else False
