"""Walks: what a run does between two waits."""

from cutoutpieces.rows import sets


def edges_of(stretches):
    """The dict from the address of each outermost row of stretches to (k, begins, ends).

    k is the index of its stretch, begins and ends tell whether it is its first and its last row.
    """
    edges = {}
    for k, (gap, many) in enumerate(stretches):
        for index in range(many):
            address = (*gap[:-1], gap[-1] + index)
            edges[address] = (k, index == 0, index == many - 1)
    return edges


class Walk:
    """Goes through rows up to the next wait, with the names that are set.

    acts are what is done on the way, stop is the spot of the wait, None ahead of
    it, known are the names that are set.
    """

    def __init__(self, layout, edges, names, pending):
        self.acts = []
        self.stop = None
        self.known = {name: True for name in names}
        self._rows = layout.by_address
        self._needed = layout.needed_at
        self._edges = edges
        self._pending = list(pending)

    def begin(self):
        """Goes to the first wait."""
        self._go_on((0,), None)

    def go(self, address, word):
        """Goes on from the row at an address, behind a word that can come there."""
        if word == "yes":
            self._go_on((*address, 0, 0), None)
        elif word == "fail" or word == "shut":
            self._go_on(address, word)
        elif word == "no" and self._rows[address][0] == "if":
            self._go_on((*address, 1, 0), None)
        else:
            self._change(self._rows[address], word)
            self._go_on(address, "end")

    def _change(self, row, word):
        if word == "done":
            self.known.pop(row[2], None)
            self.acts.append(("strike", row[2]))
        elif word == "told" and sets(row) is not None:
            self.known[row[3]] = True
            self.acts.append(("set", row[3]))

    def _go_on(self, address, way):
        """From a gap if way is None, otherwise from a row that is left by a way."""
        while self.stop is None:
            if way is None:
                address, way = self._come(address)
            else:
                address, way = self._leave(address, way)

    def _come(self, gap):
        if gap not in self._rows:
            return self._leave_list(gap[:-1], "end")
        if gap in self._edges and self._edges[gap][1] and not self._enter(self._edges[gap][0]):
            return self._leave_list(gap[:-1], "fail")
        return self._do(gap, self._rows[gap])

    def _enter(self, k):
        """Comes to the stretch with this index, and tells whether its rows are done."""
        self.acts.append(("in", k))
        return True

    def _exit(self, k, way):
        """Leaves the rows of the stretch with this index by a way, and tells by which one the stretch is left."""
        self.acts.append(("out", k, way))
        return way

    def _do(self, address, row):
        """Does what a row does without waiting."""
        for name in self._needed[address]:
            if name not in self.known:
                self.acts.append(("lack", row[1], name))
                return address, "fail"
        word = row[0]
        if word == "guard" or word == "last":
            return (*address, 0, 0), None
        if word == "leave" or word == "again":
            return address, word
        if word == "catch":
            self.acts.append(row)
            return address, "end"
        if word == "answer":
            self.acts.append(row)
            return address, "answer"
        return self._wait(address)

    def _wait(self, address):
        self.stop = (address, tuple(self._pending))
        return address, None

    def _leave(self, address, way):
        """Goes on from a row that is left by a way."""
        if address in self._edges:
            k, _, ends = self._edges[address]
            if ends or way != "end":
                way = self._exit(k, way)
        if way == "end":
            return (*address[:-1], address[-1] + 1), None
        return self._leave_list(address[:-1], way)

    def _leave_list(self, path, way):
        """Goes on from a list of rows that is left by a way."""
        if path == ():
            self.stop = ((), (way,))
            return path, way
        address, number = path[:-1], path[-1]
        word = self._rows[address][0]
        if word == "loop":
            return self._leave_round(address, way)
        if word == "guard" and number == 0 and way == "fail":
            return (*address, 1, 0), None
        if word == "last" and number == 0:
            self._pending.append(way)
            return (*address, 1, 0), None
        if word == "last":
            left = self._pending.pop()
            return address, left if way == "end" else way
        return address, way

    def _leave_round(self, address, way):
        """Goes on from the rows of a loop that are left by a way."""
        if way == "end" or way == "again":
            return self._wait(address)
        if way == "leave":
            return address, "end"
        return address, way
