"""A second reading of the document for tests: a run as plain recursion, in which each wait is a yield."""

WORDS = {
    "do": ["fail", "told"], "yield": ["fail", "shut", "told"], "strike": ["done", "fail"], "if": ["fail", "no", "yes"],
    "loop": ["fail", "no", "yes"],
}


class Reference:
    """A run of a body with all that can be seen of it."""

    def __init__(self, body, stretches=()):
        self.rows = body.rows()
        self.stretches = list(stretches)
        self.values = {name: value for value, name in enumerate(body.given)}
        self.fresh = len(self.values)
        self.functions = []
        self.signs = []
        self.acts = []
        self.going = self.run()
        self.spot, self.kind = next(self.going)

    def run(self):
        way = yield from self.list_of_rows(self.rows, (), ())
        self.signs.append(("end", way))
        yield ((), (way,)), None

    def list_of_rows(self, rows, path, pending):
        for index, row in enumerate(rows):
            for k, (gap, many) in enumerate(self.stretches):
                if (*path, index) == gap:
                    self.acts.append(("in", k))
            way = yield from self.row(row, (*path, index), pending)
            for k, (gap, many) in enumerate(self.stretches):
                within = path == gap[:-1] and gap[-1] <= index < gap[-1] + many
                if within and (way != "end" or index + 1 == gap[-1] + many):
                    self.acts.append(("out", k, way))
            if way != "end":
                return way
        return "end"

    def row(self, row, address, pending):
        kind = row[0]
        if kind in ("leave", "again"):
            return kind
        if kind in ("guard", "last"):
            return (yield from getattr(self, kind)(row, address, pending))
        if kind in ("if", "loop"):
            return (yield from getattr(self, "asking_" + kind)(row, address, pending))
        if kind == "catch":
            self.acts.append(("catch", row[1], row[2], row[3]))
            self.signs.append(("catch", row[1], row[3]))
            self.functions.append((row[2], row[3]))
            return "end"
        for name in [row[2]] if kind == "strike" else row[2]:
            if name not in self.values:
                self.acts.append(("lack", row[1], name))
                self.signs.append(("lack", row[1], name))
                return "fail"
        if kind == "strike":
            self.signs.append(("strike", row[1], self.values[row[2]]))
        else:
            self.signs.append((kind, row[1], tuple(self.values[name] for name in row[2])))
        if kind == "answer":
            self.acts.append(("answer", row[1], tuple(row[2])))
            return "answer"
        word = yield (address, pending), kind
        return self.after(row, word)

    def after(self, row, word):
        if word == "done":
            del self.values[row[2]]
            self.acts.append(("strike", row[2]))
        elif word == "told":
            if row[3] != "":
                self.values[row[3]] = self.fresh
                self.acts.append(("set", row[3]))
            self.fresh += 1
        else:
            return word
        return "end"

    def guard(self, row, address, pending):
        way = yield from self.list_of_rows(row[1], (*address, 0), pending)
        if way == "fail":
            way = yield from self.list_of_rows(row[2], (*address, 1), pending)
        return way

    def last(self, row, address, pending):
        way = yield from self.list_of_rows(row[1], (*address, 0), pending)
        ending = yield from self.list_of_rows(row[2], (*address, 1), (*pending, way))
        return way if ending == "end" else ending

    def asking_if(self, row, address, pending):
        self.signs.append(("ask", row[1]))
        word = yield (address, pending), "if"
        if word == "fail":
            return "fail"
        number = 0 if word == "yes" else 1
        return (yield from self.list_of_rows(row[2 + number], (*address, number), pending))

    def asking_loop(self, row, address, pending):
        while True:
            self.signs.append(("ask", row[1]))
            word = yield (address, pending), "loop"
            if word != "yes":
                return "fail" if word == "fail" else "end"
            way = yield from self.list_of_rows(row[2], (*address, 0), pending)
            if way == "leave":
                return "end"
            if way not in ("end", "again"):
                return way

    def takes(self):
        """The words that can come now, those of the world's uses too."""
        uses = [(use, k) for k, (name, use) in enumerate(self.functions)]
        return WORDS.get(self.kind, []) + uses

    def go(self, word):
        self.acts = []
        if isinstance(word, str):
            self.spot, self.kind = self.going.send(word)
        elif word[0] == "look":
            self.signs.append(("look", word[1], self.values.get(self.functions[word[1]][0])))
        else:
            self.values[self.functions[word[1]][0]] = self.fresh
            self.fresh += 1
            self.signs.append(("put", word[1]))

    def standing(self):
        puts = {name for name, use in self.functions if use == "put"}
        return self.spot, tuple(sorted(self.values)), tuple(sorted(puts))


def replayed(body, words, stretches=()):
    """A Reference that has taken some words."""
    run = Reference(body, stretches)
    for word in words:
        run.go(word)
    return run


def all_standings(body):
    """The ascending list of the standings, found by replaying words."""
    found = {replayed(body, []).standing(): []}
    waiting = list(found)
    while waiting:
        words = found[waiting.pop()]
        for word in replayed(body, words).takes():
            told = replayed(body, [*words, word]).standing()
            if told not in found:
                found[told] = [*words, word]
                waiting.append(told)
    return sorted(found)
