"""Sides: body and cut side by side, as far as the cells of one name go.

A state is a tuple (place, names, puts, cells). A step is a tuple (move, state),
the state being None if something unlike comes. A move is one of these tuples:
("word", word, watched), watched telling of each call that is left whether its
frame is watched from then on; ("put", name, at) and ("look", name, at), at being
a place in the cells, None if any function for the name will do.
"""

from cutoutpieces.cells import BODY, FRAME, betrayed, called, caught, going, puttable, returned, set_at, sign_of, struck
from cutoutpieces.leads import with_name
from cutoutpieces.rows import reads


def is_unset(cell, is_set):
    """Whether what a cell tells of is unset, the body's name being set or not."""
    return cell[0] == "-" or (cell[0] == "=" and not is_set)


class Side:
    """What becomes of the cells of a name in rows with calls of these plans, told by their stretches' indexes."""

    def __init__(self, name, layout, plans):
        self._name = name
        self._layout = layout
        self._at_marks = layout.by_marks()
        self._plans = plans

    def word_steps(self, lead, names, puts, cells):
        """The list of the steps behind a word, from these names, puts and cells."""
        word, acts, stop, known, caught_puts = lead
        ways = self._along(acts, stop, cells, self._name in names)
        if ways is None:
            return [(("word", word, ()), None)]
        for name in caught_puts:
            puts = with_name(puts, name)
        return [(("word", word, watched), (stop, known, puts, following)) for following, watched in ways]

    def use_steps(self, state):
        """The list of the steps by which the world uses functions."""
        place, names, puts, cells = state
        found = [(("look", self._name, at), None) for at in betrayed(cells)]
        more = with_name(names, self._name)
        for at in puttable(cells):
            following = set_at(cells, at, self._name in names)
            found.append((("put", self._name, at), (place, more, puts, following)))
        for name in puts:
            if name != self._name and name not in names:
                found.append((("put", name, None), (place, with_name(names, name), puts, cells)))
        return found

    def _along(self, acts, stop, cells, is_set):
        """The list of the tuples (cells, watched) behind acts and at their stop, None if something unlike comes."""
        ways = [(cells, ())]
        for act in acts:
            if any([self._is_unlike(act, held, is_set) for held, _ in ways]):
                return None
            ways = [(next_cells, (*watched, *more))
                    for held, watched in ways for next_cells, more in self._behind(act, held, is_set)]
            if act == ("set", self._name) or act == ("strike", self._name):
                is_set = act[0] == "set"
        if self._is_needed_at(stop[0]) and any([sign_of(held) != "=" for held, _ in ways]):
            return None
        return ways

    def _behind(self, act, cells, is_set):
        """The list of the tuples (cells, watched) behind one act."""
        word = act[0]
        if word == "in":
            return [(called(cells, self._plans[act[1]][self._name][0], is_set), ())]
        if word == "out":
            return [(following, (watched,)) for following, watched in returned(cells, self._handed_back(act))]
        if word == "set" and act[1] == self._name:
            return [(set_at(cells, going(cells), is_set), ())]
        if word == "strike" and act[1] == self._name:
            return [(struck(cells), ())]
        if word == "catch" and act[2] == self._name:
            return [(caught(cells, act[3]), ())]
        return [(cells, ())]

    def _handed_back(self, act):
        """How the name is handed back where a call is left."""
        plan = self._plans[act[1]]
        return plan[self._name][1] if act[2] == "end" or act[2] in plan.told else "none"

    def _is_unlike(self, act, cells, is_set):
        word = act[0]
        if word == "in":
            return self._plans[act[1]][self._name][0] == "value" and is_unset(cells[BODY], is_set)
        if word == "out":
            return self._handed_back(act) == "value" and is_unset(cells[FRAME], is_set)
        if word == "answer":
            return self._name in act[2] and sign_of(cells) != "="
        return word == "lack" and self._is_other_lack(act, sign_of(cells))

    def _is_other_lack(self, act, sign):
        """Whether a row that lacks a name in the body lacks none, or another one, in the cut."""
        if act[2] == self._name:
            return sign == "+"
        needed = reads(self._layout.row(self._at_marks[act[1]]))
        return sign == "-" and self._name in needed[:needed.index(act[2])]

    def _is_needed_at(self, address):
        """Whether the row at which a run waits needs the name."""
        return address != () and self._name in reads(self._layout.row(address))
