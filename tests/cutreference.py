"""A second reading of the document for tests: cut bodies as plain recursion, parted from their bodies by trying words."""

import collections

from reference import Reference


class CutReference(Reference):
    """A run of a cut body; scopes are the variables that the functions have caught."""

    def __init__(self, cut):
        self.calls = {stretch[0]: (mark, stretch[1], plan) for mark, stretch, plan in cut.calls()}
        self.scopes = []
        self.within = False
        super().__init__(cut.body)

    def run(self):
        self.own = self.values
        return (yield from super().run())

    def list_of_rows(self, rows, path, pending):
        index = 0
        while index < len(rows):
            if (*path, index) in self.calls:
                mark, many, plan = self.calls[(*path, index)]
                way = yield from self.call(mark, plan, rows[index:index + many], (*path, index), pending)
                index += many
            else:
                way = yield from self.row(rows[index], (*path, index), pending)
                index += 1
            if way != "end":
                return way
        return "end"

    def call(self, mark, plan, rows, gap, pending):
        for name, handing in plan.ins().items():
            if handing == "value" and name not in self.own:
                self.signs.append(("lack", mark, name))
                return "fail"
        self.values = {name: self.own[name] for name in plan.ins() if name in self.own}
        self.within = True
        way = "end"
        for index, row in enumerate(rows):
            way = yield from self.row(row, (*gap[:-1], gap[-1] + index), pending)
            if way != "end":
                break
        frame, self.values, self.within = self.values, self.own, False
        if way != "end" and way not in plan.told:
            return way
        for name, handing in plan.backs().items():
            if handing == "value" and name not in frame:
                self.signs.append(("lack", mark, name))
                return "fail"
        for name in plan.backs():
            self.own.pop(name, None)
            if name in frame:
                self.own[name] = frame[name]
        return way

    def row(self, row, address, pending):
        if row[0] == "catch":
            self.scopes.append(self.values)
        return super().row(row, address, pending)

    def go(self, word):
        if isinstance(word, str):
            super().go(word)
        else:
            active, self.values = self.values, self.scopes[word[1]]
            super().go(word)
            self.values = active

    def frame(self):
        return dict(self.values) if self.within else None


class Pair:
    """Body and cut, with the same words."""

    def __init__(self, cut, words):
        self.body, self.cut = Reference(cut.body), CutReference(cut)
        self.names = cut.body.names()
        self.words = list(words)
        for word in words:
            self.body.go(word)
            self.cut.go(word)

    def parts(self):
        return self.body.signs != self.cut.signs

    def cell(self, scope, name):
        """How a variable of the cut is to that of the body, and by which uses functions hold it."""
        uses = {use for held, (caught, use) in zip(self.cut.scopes, self.cut.functions) if held is scope and caught == name}
        mine, its = self.body.values.get(name), scope.get(name)
        sign = "=" if mine == its else "-" if its is None else "+"
        return sign, "look" in uses, "put" in uses

    def cells(self, scope):
        return tuple(self.cell(scope, name) for name in self.names)

    def over(self):
        """The variables of the frames that are over and still held, each once."""
        found = []
        for scope in self.cut.scopes:
            if scope is not self.cut.own and scope is not self.cut.values and not any(scope is other for other in found):
                found.append(scope)
        return found

    def held(self):
        """All that matters for what comes, in a form in which equal pairs are equal.

        Of frames that are over and hold the same, more than two count as two.
        """
        frame = self.cells(self.cut.values) if self.cut.within else ()
        elders = collections.Counter(self.cells(scope) for scope in self.over())
        return self.body.standing(), self.cells(self.cut.own), frame, frozenset((k, min(n, 2)) for k, n in elders.items())

    def states(self, name):
        """All states of a name that tell of this pair, whichever frame is watched, or none."""
        spot, names, puts = self.body.standing()
        frame = self.cell(self.cut.values, name) if self.cut.within else ()
        over = [self.cell(scope, name) for scope in self.over()]
        over = [cell for cell in over if cell[1] or cell[2]]
        found = [((), any(cell[2] for cell in over))]
        for k, cell in enumerate(over):
            found.append((cell, any(other[2] for other in over[:k] + over[k + 1:])))
        return {(spot, names, puts, (self.cell(self.cut.own, name), frame, *rest)) for rest in found}


def some_words(pair):
    """Words that can come, of functions that hold the same but one."""
    words, seen = [], set()
    for word in pair.body.takes():
        if not isinstance(word, str):
            name, scope = pair.body.functions[word[1]][0], pair.cut.scopes[word[1]]
            kind = "own" if scope is pair.cut.own else "frame" if scope is pair.cut.values else pair.cells(scope)
            if (word[0], name, kind) in seen:
                continue
            seen.add((word[0], name, kind))
        words.append(word)
    return words


def searched(cut, most):
    """All different pairs to which words lead, and a shortest list of words that parts body and cut, None if none does.

    The latter is "too many" if it is too long to find.
    """
    first = Pair(cut, [])
    if first.parts():
        return [], []
    pairs, found = [first], {first.held(): True}
    waiting = collections.deque([first])
    while waiting:
        if len(pairs) > most:
            return pairs, "too many"
        ahead = waiting.popleft()
        for word in some_words(ahead):
            pair = Pair(cut, [*ahead.words, word])
            if pair.parts():
                return pairs, pair.words
            if pair.held() not in found:
                found[pair.held()] = True
                pairs.append(pair)
                waiting.append(pair)
    return pairs, None


def shortest_parting(cut, most=2000):
    """A shortest list of words that parts a cut from its body, None if none does; "too many" if that is too long to find."""
    return searched(cut, most)[1]
