"""Fold tables: closed lists of states that show that a piece holds in all bodies of a kind."""

from cutoutpieces.cells import are_cells
from cutoutpieces.folds import PLACES, fold_ground, fold_world
from cutoutpieces.plans import need_fit
from cutoutpieces.searches import all_states, is_closed
from cutoutpieces.spots import is_wait, waits_at
from cutoutpieces.tables import is_choice
from cutoutpieces.words import is_one_of


def fold_table(piece, plan, kind, name, *, most=20000):
    """The list of all states of a name, those around the piece first, None if something unlike can be come to."""
    need_fit(piece, plan)
    found = all_states(fold_world(fold_ground(piece, kind), plan, name), most)
    return None if found is None else sorted_states(found)


def is_fold_table(piece, plan, kind, name, thing):
    """Whether any value is a list of states of a name that has all that it has to, and nothing unlike."""
    need_fit(piece, plan)
    names = tuple(piece.names())
    if not isinstance(thing, list) or not all([is_state(piece, names, name, state) for state in thing]):
        return False
    return is_closed(fold_world(fold_ground(piece, kind), plan, name), thing)


def is_state(piece, names, name, thing):
    """Whether any value is, by its form, a state of a name of a piece with these names."""
    if not isinstance(thing, tuple) or len(thing) != 4:
        return False
    place, known, puts, cells = thing
    if not is_place(piece, place) or not is_choice(known, names) or not is_choice(puts, names):
        return False
    return are_cells(cells, not is_around(place), name in known)


def is_around(place):
    """Whether any value is a place around the piece."""
    return is_one_of(place, PLACES)


def is_place(piece, thing):
    """Whether any value is a place of a fold by its form."""
    # A kind with loops around is not asked for: the ways by which lasts are
    # left are those of a piece that stands in a loop.
    return is_around(thing) or (is_wait(thing) and waits_at(piece.layout(), thing[0], thing[1], True))


def sorted_states(states):
    """The list of states, those around the piece first, each part ascending."""
    around = [state for state in states if is_around(state[0])]
    within = [state for state in states if not is_around(state[0])]
    return [*sorted(around), *sorted(within)]
