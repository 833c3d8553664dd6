"""Tables: closed lists of states that show that a cut is the same as its body."""

from cutoutpieces.cells import are_cells
from cutoutpieces.pieces import stands_in
from cutoutpieces.products import ground_of_cut, world_of
from cutoutpieces.searches import all_states, is_closed
from cutoutpieces.spots import is_spot
from cutoutpieces.words import is_one_of


def table(cut, name, *, most=20000):
    """The ascending list of all states of a name, None if something unlike can be come to."""
    found = all_states(world_of(cut, name, ground_of_cut(cut)), most)
    return None if found is None else sorted(found)


def is_table(cut, name, thing):
    """Whether any value is a list of states of a name that has all that it has to, and nothing unlike."""
    names = tuple(cut.body.names())
    if not isinstance(thing, list) or not all([is_state(cut, names, name, state) for state in thing]):
        return False
    return is_closed(world_of(cut, name, ground_of_cut(cut)), thing)


def is_state(cut, names, name, thing):
    """Whether any value is, by its form, a state of a name of a cut with these names."""
    if not isinstance(thing, tuple) or len(thing) != 4:
        return False
    spot, known, puts, cells = thing
    if not is_spot(cut.body, spot) or not is_choice(known, names) or not is_choice(puts, names):
        return False
    is_called = any([spot[0] != () and stands_in(spot[0], stretch) for _, stretch, _ in cut.calls()])
    return are_cells(cells, is_called, name in known)


def is_choice(thing, names):
    """Whether any value is an ascending tuple of some of the names of a tuple, none of them twice."""
    if not isinstance(thing, tuple) or not all([is_one_of(name, names) for name in thing]):
        return False
    return all([name < following for name, following in zip(thing, thing[1:])])
