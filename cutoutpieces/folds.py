"""Folds: a piece with a plan in all bodies of a kind at once."""

from cutoutpieces.grounds import Ground
from cutoutpieces.leads import Leads, with_name, without_name
from cutoutpieces.plans import need_fit
from cutoutpieces.searches import is_like
from cutoutpieces.trails import Trail
from cutoutpieces.worlds import World

EARLY = "early"
LATE = "late"
OVER = "over"
PLACES = ("early", "late", "over")


def needs_loop(piece):
    """Whether a piece has a leave or an again for which it has no loop itself."""
    layout = piece.layout()
    leaving = [at for at in layout.addresses() if layout.row(at)[0] in ("leave", "again")]
    return not all([layout.in_loop(at) for at in leaving])


def leads_through(piece):
    """Where words lead in a piece."""
    return Leads(piece.layout(), [((0,), len(piece.rows()))])


def place_behind(way, around):
    """The place to which the way leads on where the piece is left, with these rows around."""
    if way == "fail" and "guard" not in around and "last" not in around:
        return OVER
    if (way == "answer" or way == "shut") and "last" not in around:
        return OVER
    return EARLY if "loop" in around else LATE


def first_names(piece, kind):
    """The list of the tuples of the names that may be set where a body of the kind begins."""
    found = [()]
    for name in piece.names():
        more = [(*names, name) for names in found]
        found = [*found, *more] if "unset" in kind.of(name) else more
    return found


class FoldGround(Ground):
    """The standings around a piece, and within it, in all bodies of a kind, and the edges that lead on from each.

    Beside the moves of grounds there are ("begin", names, None), ("row", name, word) for what a row of
    the body does, and ("over", None, None).
    """

    def __init__(self, piece, kind, leads):
        Ground.__init__(self, (), leads)
        self._piece = piece
        self._kind = kind
        # No body of a kind without loops has a piece that needs one.
        self._begins = "loop" in kind.around or not needs_loop(piece)

    def begin(self):
        """The list of the edges to the standings with which bodies begin."""
        choices = first_names(self._piece, self._kind)
        return [(("begin", names, None), [], self.number_of((EARLY, names, ()))) for names in choices]

    def way_behind(self, place, names, word):
        """The way by which the piece is left behind a word at a place, "" being the word at its begin."""
        return [spot[1][0] for other, _, spot, _, _ in self._leads_from(place, names) if other == word][0]

    def _edges_on(self, place, names, puts):
        found = []
        if place == EARLY or place == LATE:
            found.extend(self._row_edges(place, names, puts))
            found.append((("over", None, None), [], self.number_of((OVER, names, puts))))
        return [*found, *[self._edge(lead, puts) for lead in self._leads_from(place, names)]]

    def _leads_from(self, place, names):
        if place == EARLY:
            return [self._leads.begin(names)] if self._begins else []
        return [] if place in PLACES else self._leads.behind(place, names)

    def _place_of(self, spot):
        """The place to which the way leads on from a spot of the piece, if this is left there; otherwise the spot."""
        return spot if spot[0] != () else place_behind(spot[1][0], self._kind.around)

    def _row_edges(self, place, names, puts):
        """The list of the edges along what the rows of the body do with names."""
        # "unset" tells of no row.
        done = [(name, word) for name in self._piece.names() for word in self._kind.of(name) if word != "unset"]
        return [self._row_edge(place, names, puts, name, word) for name, word in done]

    def _row_edge(self, place, names, puts, name, word):
        acts = []
        if word == "set":
            acts.append(("set", name))
            names = with_name(names, name)
        elif word == "look" or word == "put":
            acts.append(("catch", "", name, word))
            puts = with_name(puts, name) if word == "put" else puts
        else:
            acts.append(("need", [name]))
            if word == "strike" and name in names:
                acts.append(("strike", name))
                names = without_name(names, name)
        return ("row", name, word), acts, self.number_of((place, names, puts))


def fold_ground(piece, kind):
    """What is walked of a piece in all bodies of a kind."""
    return FoldGround(piece, kind, leads_through(piece))


def fold_world(ground, plan, name):
    """What is searched for one name of a piece with a plan."""
    return World(Trail(ground, name), [(plan[name], plan.told)])


def breaking(piece, plan, kind, *, most=20000):
    """The ascending list of the names of a piece for which something unlike can be come to."""
    need_fit(piece, plan)
    ground = fold_ground(piece, kind)
    return [name for name in piece.names() if not is_like(fold_world(ground, plan, name), most)]


def holds(piece, plan, kind, *, most=20000):
    """Whether body and cut are the same in all bodies of a kind in which a piece stands."""
    need_fit(piece, plan)
    ground = fold_ground(piece, kind)
    for name in piece.names():
        if not is_like(fold_world(ground, plan, name), most):
            return False
    return True


def holds_name(piece, plan, kind, name, *, most=20000):
    """Whether nothing unlike can be come to for a name of a piece."""
    need_fit(piece, plan)
    return is_like(fold_world(fold_ground(piece, kind), plan, name), most)
