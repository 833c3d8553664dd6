"""Folds: a piece with a plan in all bodies of a kind at once."""

from cutoutpieces.cells import BODY, FIRST, caught, set_at, sign_of, struck
from cutoutpieces.leads import Leads, with_name, without_name
from cutoutpieces.plans import need_fit
from cutoutpieces.searches import is_like
from cutoutpieces.sides import Side

EARLY = "early"
LATE = "late"
OVER = "over"
PLACES = ("early", "late", "over")


def needs_loop(piece):
    """Whether a piece has a leave or an again for which it has no loop itself."""
    layout = piece.layout()
    leaving = [at for at in layout.addresses() if layout.row(at)[0] in ("leave", "again")]
    return not all([layout.in_loop(at) for at in leaving])


def leads_through(piece):
    """Where words lead in a piece."""
    return Leads(piece.layout(), [((0,), len(piece.rows()))])


def place_behind(way, around):
    """The place to which the way leads on where the piece is left, with these rows around."""
    if way == "fail" and "guard" not in around and "last" not in around:
        return OVER
    if (way == "answer" or way == "shut") and "last" not in around:
        return OVER
    return EARLY if "loop" in around else LATE


def first_names(piece, kind):
    """The list of the tuples of the names that may be set where a body of the kind begins."""
    found = [()]
    for name in piece.names():
        more = [(*names, name) for names in found]
        found = [*found, *more] if "unset" in kind.of(name) else more
    return found


class Fold:
    """What is searched for one name of a piece in the bodies of a kind.

    Beside the moves of sides there are ("begin", names, None), ("row", name, word) for what a row of
    the body does, and ("over", None, None).
    """

    def __init__(self, piece, plan, kind, name, leads):
        self._piece = piece
        self._kind = kind
        self._name = name
        # No body of a kind without loops has a piece that needs one.
        self._begins = "loop" in kind.around or not needs_loop(piece)
        self._leads = leads
        self._side = Side(name, piece.layout(), [plan])

    def firsts(self):
        """The list of the steps to the states with which bodies begin."""
        choices = first_names(self._piece, self._kind)
        return [(("begin", names, None), (EARLY, names, (), FIRST)) for names in choices]

    def steps(self, state):
        """The list of the steps from a state."""
        place, names, puts, cells = state
        found = self._side.use_steps(state)
        if place == EARLY or place == LATE:
            found.extend(self._row_steps(state))
            found.append((("over", None, None), (OVER, names, puts, cells)))
        if place == EARLY and self._begins:
            found.extend(self._word_steps(self._leads.begin(names), state))
        if place not in PLACES:
            for lead in self._leads.behind(place, names):
                found.extend(self._word_steps(lead, state))
        return found

    def way_behind(self, state, word):
        """The way by which the piece is left behind a word at a state, "" being the word at its begin."""
        place, names, _, _ = state
        leads = [self._leads.begin(names)] if place == EARLY else self._leads.behind(place, names)
        stop = [lead[2] for lead in leads if lead[0] == word][0]
        return stop[1][0]

    def _word_steps(self, lead, state):
        _, names, puts, cells = state
        return [(move, self._led_on(following)) for move, following in self._side.word_steps(lead, names, puts, cells)]

    def _led_on(self, state):
        """The state with the place to which the way leads on, if the piece is left there."""
        if state is None or state[0][0] != ():
            return state
        spot, names, puts, cells = state
        return place_behind(spot[1][0], self._kind.around), names, puts, cells

    def _row_steps(self, state):
        """The list of the steps by what the rows of the body do with names."""
        found = []
        for name in self._piece.names():
            for word in self._kind.of(name):
                if name == self._name and word in ("read", "strike") and sign_of(state[3]) != "=":
                    found.append((("row", name, word), None))
                else:
                    found.append((("row", name, word), self._behind_row(state, name, word)))
        return found

    def _behind_row(self, state, name, word):
        place, names, puts, cells = state
        if word == "set":
            following = set_at(cells, BODY, name in names)
            return place, with_name(names, name), puts, self._own(name, cells, following)
        if word == "strike" and name in names:
            return place, without_name(names, name), puts, self._own(name, cells, struck(cells))
        if word == "look" or word == "put":
            more = with_name(puts, name) if word == "put" else puts
            return place, names, more, self._own(name, cells, caught(cells, word))
        return state

    def _own(self, name, cells, following):
        """The following cells, if the name is theirs, otherwise the cells as they are."""
        return following if name == self._name else cells


def breaking(piece, plan, kind, *, most=20000):
    """The ascending list of the names of a piece for which something unlike can be come to."""
    need_fit(piece, plan)
    leads = leads_through(piece)
    return [name for name in piece.names() if not is_like(Fold(piece, plan, kind, name, leads), most)]


def holds(piece, plan, kind, *, most=20000):
    """Whether body and cut are the same in all bodies of a kind in which a piece stands."""
    need_fit(piece, plan)
    leads = leads_through(piece)
    for name in piece.names():
        if not is_like(Fold(piece, plan, kind, name, leads), most):
            return False
    return True


def holds_name(piece, plan, kind, name, *, most=20000):
    """Whether nothing unlike can be come to for a name of a piece."""
    need_fit(piece, plan)
    return is_like(Fold(piece, plan, kind, name, leads_through(piece)), most)
