"""Trails: one name along a ground, whatever its handings are.

Programs [sides], cells and standings [grounds] are told by numbers. An edge of a trail is a tuple (program, standing,
move): what becomes of the cells of the name along an edge of the ground.
"""

from cutoutpieces.cells import betrayed, puttable, set_at
from cutoutpieces.leads import with_name
from cutoutpieces.numbering import Numbering
from cutoutpieces.sides import UNLIKE, program_of


class Trail:
    """What can be said of a name on a ground without its handings, found as it is asked for."""

    def __init__(self, ground, name):
        self.name = name
        self.ground = ground
        self.cells = Numbering()
        self.programs = Numbering()
        self._leading = {}
        self._lifted = {}
        self._uses = {}

    def begin(self):
        """The list of the edges to the first standings."""
        is_set = self.ground.is_given(self.name)
        return [self._edge(edge, is_set) for edge in self.ground.begin()]

    def leading_on(self, number):
        """A tuple: whether the name is set at a standing, and the list of the edges from there, which is not copied.

        These are all but the puts of the name.
        """
        if number not in self._leading:
            is_set = self.name in self.ground.standing_at(number)[1]
            own = ("put", self.name, None)
            edges = [self._edge(edge, is_set) for edge in self.ground.edges(number) if edge[0] != own]
            self._leading[number] = (is_set, edges)
        return self._leading[number]

    def lifted(self, number):
        """The standing with the name set."""
        if number not in self._lifted:
            place, names, puts = self.ground.standing_at(number)
            self._lifted[number] = self.ground.number_of((place, with_name(names, self.name), puts))
        return self._lifted[number]

    def uses(self, cells, is_set):
        """A tuple: what is unlike if the world looks at the name, and the list of the cells behind its puts."""
        if (cells, is_set) not in self._uses:
            held = self.cells.thing_at(cells)
            behind = [self.cells.number_of(set_at(held, at, is_set)) for at in puttable(held)]
            self._uses[cells, is_set] = (UNLIKE if betrayed(held) else 0, behind)
        return self._uses[cells, is_set]

    def _edge(self, edge, is_set):
        move, acts, number = edge
        return self.programs.number_of(program_of(acts, self.name, is_set)), number, move
