"""Grounds: what is walked, whatever name is looked after, as standings and edges between them.

A standing is a tuple (place, names, puts); it is told by its number. An edge is a tuple (move, acts, number): how the
edge is told in paths, what is done along it, and the standing to which it leads. A move is one of these tuples:
("word", word), ("put", name, None) for a put of the world through any function for the name; folds have more.
"""

from cutoutpieces.leads import with_name
from cutoutpieces.numbering import Numbering


class Ground:
    """The standings of a body, and the edges that lead on from each, found as they are asked for."""

    def __init__(self, given, leads):
        self._given = given
        self._leads = leads
        self._standings = Numbering()
        self._edges = {}

    def number_of(self, standing):
        """The number of a standing."""
        return self._standings.number_of(standing)

    def standing_at(self, number):
        """The standing with a number."""
        return self._standings.thing_at(number)

    def is_given(self, name):
        """Whether a name is set ahead of what is done at the begin."""
        return name in self._given

    def begin(self):
        """The list of the edges to the first standings."""
        return [self._edge(self._leads.begin(self._given), ())]

    def edges(self, number):
        """The list of the edges from a standing; it is not copied."""
        if number not in self._edges:
            place, names, puts = self.standing_at(number)
            self._edges[number] = [*self._put_edges(place, names, puts), *self._edges_on(place, names, puts)]
        return self._edges[number]

    def acts_behind(self, spot, names, word):
        """What is done behind a word at a spot with these names set."""
        return [acts for other, acts, _, _, _ in self._leads.behind(spot, names) if other == word][0]

    def acts_at_begin(self):
        """What is done up to the first wait."""
        return self._leads.begin(self._given)[1]

    def _put_edges(self, place, names, puts):
        return [(("put", name, None), (), self.number_of((place, with_name(names, name), puts)))
                for name in puts if name not in names]

    def _edges_on(self, place, names, puts):
        return [self._edge(lead, puts) for lead in self._leads.behind(place, names)]

    def _edge(self, lead, puts):
        word, acts, spot, names, caught = lead
        for name in caught:
            puts = with_name(puts, name)
        return ("word", word), acts, self.number_of((self._place_of(spot), names, puts))

    def _place_of(self, spot):
        """The place at which a spot stands."""
        return spot
