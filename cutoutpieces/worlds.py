"""Worlds: what is searched for one name with calls of these handings.

A state is a tuple (place, names, puts, cells). It is told by its code, the tuple of the number of its standing on the
ground and that of its cells on the trail; None stands for the begin.
"""

from cutoutpieces.cells import FIRST, betrayed, puttable
from cutoutpieces.sides import ways_along


class World:
    """The states of a name on its trail, with these handings.

    A move, which tells of a step, is one of the ground, with a tuple behind it if it is a word: of each call that is
    left, whether its frame is watched from then on; or it is ("put", name, at) or ("look", name, at), at being a place
    in the cells.
    """

    def __init__(self, trail, handings):
        self._trail = trail
        self._handings = handings
        self._behind = {}

    def code_of(self, state):
        """The code of a state."""
        return self._trail.ground.number_of(state[:3]), self._trail.cells.number_of(state[3])

    def state_at(self, code):
        """The state with a code, None for the begin."""
        if code is None:
            return None
        return (*self._trail.ground.standing_at(code[0]), self._trail.cells.thing_at(code[1]))

    def firsts(self):
        """A tuple: what is unlike at the begin, and the list of the codes of the first states."""
        return self._along(self._trail.begin(), self._trail.cells.number_of(FIRST), 0, [])

    def steps(self, code):
        """A tuple: what is unlike in the steps from a state, and the list of the codes to which they lead."""
        standing, cells = code
        is_set, edges = self._trail.leading_on(standing)
        unlike, put = self._trail.uses(cells, is_set)
        return self._along(edges, cells, unlike, [(self._trail.lifted(standing), following) for following in put])

    def _along(self, edges, cells, unlike, ahead):
        """A tuple: what is unlike, along edges too, and the list of the codes ahead and of those along edges."""
        found = list(ahead)
        for program, standing, _ in edges:
            kept = self._behind.get((program, cells))
            more, behind = kept if kept is not None else self._ways(program, cells)
            unlike = unlike | more
            for following in behind:
                found.append((standing, following))
        return unlike, found

    def _ways(self, program, cells):
        """A tuple, which is kept: what is unlike along a program, and the list of the cells behind it."""
        held = self._trail.cells
        unlike, ways = ways_along(self._trail.programs.thing_at(program), held.thing_at(cells), self._handings)
        self._behind[program, cells] = (unlike, [held.number_of(following) for following, _ in ways])
        return self._behind[program, cells]

    def move_between(self, code, following):
        """The first move that leads from a state to another one; following is None for something unlike."""
        return [move for move, behind in self._moves(code) if behind == following][0]

    def _moves(self, code):
        """The list of the tuples (move, code) of all steps from a state, the code being None for something unlike."""
        if code is None:
            return self._moves_along(self._trail.begin(), FIRST)
        cells, name = self._trail.cells.thing_at(code[1]), self._trail.name
        is_set, edges = self._trail.leading_on(code[0])
        looks = [(("look", name, at), None) for at in betrayed(cells)]
        lifted, put = self._trail.lifted(code[0]), self._trail.uses(code[1], is_set)[1]
        puts = [(("put", name, at), (lifted, following)) for at, following in zip(puttable(cells), put)]
        return [*looks, *puts, *self._moves_along(edges, cells)]

    def _moves_along(self, edges, cells):
        found = []
        for program, standing, move in edges:
            unlike, ways = ways_along(self._trail.programs.thing_at(program), cells, self._handings)
            if unlike:
                found.append((with_watched(move, ()), None))
            else:
                behind = [(standing, self._trail.cells.number_of(following)) for following, _ in ways]
                found.extend([(with_watched(move, way[1]), code) for way, code in zip(ways, behind)])
        return found


def with_watched(move, watched):
    """A move of a ground with what is watched behind it, if it is a word."""
    return (*move, watched) if move[0] == "word" else move
