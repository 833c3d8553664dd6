"""Values for tests: odd ones for whatever takes any value, and pseudo-random bodies."""

from cutoutpieces.bodies import Body
from cutoutpieces.cuts import Cut, need_apart
from cutoutpieces.cutting import CutRun
from cutoutpieces.errors import Overlap, PieceError, Wrong
from cutoutpieces.kinds import Kind
from cutoutpieces.pieces import Piece, piece_at, stretches
from cutoutpieces.plans import Plan, needed_ways

HANDINGS = ["none", "value", "state"]
KIND_WORDS = ["look", "put", "read", "set", "strike", "unset"]


def nested(many, innermost, shut_in):
    """A value so many levels deep."""
    thing = innermost
    for _ in range(many):
        thing = shut_in(thing)
    return thing


def rows_deep(many):
    """A list of rows that is so many rows deep."""
    rows = [("do", "a", [], "")]
    for k in range(many - 1):
        rows = [("guard", rows, [])]
    return rows


def mark(k):
    """A mark of its own for each number below 17576."""
    letters = "abcdefghijklmnopqrstuvwxyz"
    return "m" + letters[k // 676] + letters[k // 26 % 26] + letters[k % 26]


def plain_rows(many):
    """So many rows, one behind another, without names."""
    return [("do", mark(k), [], "") for k in range(many)]


def odd_values():
    """Values of all kinds, new ones at each call; some of them are names, addresses or rows."""
    return [
        None, True, False, 0, 1, 2, -1, 10 ** 30, "", "a", "x", "abcdefgh", "abcdefghi", "A", "aB", "a1", "a b", "a\n",
        "_a", "look", "put", "end", "value", "state", "none", "told", "unset", "loop", b"", b"a", [], (), {}, set(),
        {"a": "b"}, {1: 2}, {"a"}, frozenset(["a"]), ["a"], ("a",), ["a", "b"], ("a", "b"), [["a"]], (("a",),),
        [0], (0,), (1,), (True,), (False,), (0, 0), (0, 0, 0), (0, True, 0), (-1,), (0, 0, -1), ("0",), ((0,),),
        (None,), ((), ("end",)), ((), ()), ((0,), ()), [(0,), ()], ((0,), 1), ((0,), True), ((0,), 0), ("look", 0),
        ("put", 0), ("look", False), ("put", True), ["look", 0], ("leave",), ["leave"], [("leave",)], (("leave",),),
        ("do",), ("do", "a", [], ""), ["do", "a", [], ""], nested(29, [], lambda thing: [thing]),
        nested(29, (), lambda thing: (thing,)), nested(14, ("leave",), lambda thing: ("guard", [thing], ())),
        [0] * 9999, ("a",) * 9999, tuple(range(9999)), ["a"] * 9999, "a" * 9999, Body([], []),
        Body(["a"], [("do", "a", [], "")]), [Body([], [])], (Body([], []), 0), Wrong(0), PieceError(), Body, is_odd, Plan({}, {}, []), [Plan({}, {}, [])],
        Plan, Kind({}, []), Piece([("do", "a", [], "")]), Cut(Body([], []), []), CutRun(Cut(Body([], []), [])), {"x": "value"},
        {"x": ["value"]}, {"X": "value"}, {"x": True}, {"x": "some"}, {("x",): "value"}, {"x": "none", 0: "none"},
        ["fail", 0], {"fail": True},
    ]


def is_odd(number):
    """A function, to be passed as a value."""
    return number % 2 == 1


class Dice:
    """Numbers that look thrown, but come the same each time."""

    def __init__(self, seed):
        self.held = seed * 2 + 1

    def below(self, many):
        self.held = (self.held * 6364136223846793005 + 1442695040888963407) % 2 ** 64
        return (self.held >> 33) % many

    def one_of(self, things):
        return things[self.below(len(things))]


class Maker:
    """Makes rows by throwing dice, with marks that stand once."""

    def __init__(self, seed, names):
        self.dice = Dice(seed)
        self.names = names
        self.marks = 0

    def mark(self):
        self.marks += 1
        return mark(self.marks)

    def some_names(self, most):
        return [self.dice.one_of(self.names) for _ in range(self.dice.below(most + 1))] if self.names else []

    def rows(self, many, depth, in_loop):
        """At most so many rows, with lists within one another at most so deep."""
        found = []
        for _ in range(self.dice.below(many + 1)):
            found.append(self.row(many, depth, in_loop))
            if found[-1][0] in ("leave", "again", "answer"):
                break
        return found

    def row(self, many, depth, in_loop):
        kinds = ["do", "do", "yield"]
        if self.names:
            kinds += ["strike", "catch", "catch"]
        if depth > 1:
            kinds += ["if", "loop", "guard", "last", "guard", "last"]
        if self.dice.below(4) == 0:
            kinds += ["answer", "answer"] + (["leave", "again"] * 2 if in_loop else [])
        return self.row_of(self.dice.one_of(kinds), many, depth, in_loop)

    def row_of(self, kind, many, depth, in_loop):
        if kind in ("do", "yield"):
            gets = self.dice.one_of(self.names + [""])
            return (kind, self.mark(), self.some_names(2), gets)
        if kind == "strike":
            return (kind, self.mark(), self.dice.one_of(self.names))
        if kind == "catch":
            return (kind, self.mark(), self.dice.one_of(self.names), self.dice.one_of(["look", "put"]))
        if kind == "answer":
            return (kind, self.mark(), self.some_names(1))
        if kind in ("leave", "again"):
            return (kind,)
        if kind == "loop":
            return (kind, self.mark(), self.rows(many, depth - 1, True))
        lists = [self.rows(many, depth - 1, in_loop) for _ in range(2)]
        if kind == "if":
            return (kind, self.mark(), lists[0], lists[1])
        return (kind, lists[0], lists[1])


def made_bodies(many, names=("x", "y", "z")):
    """So many bodies of all kinds of rows, the same ones each time."""
    found = []
    seed = 0
    while len(found) < many:
        seed += 1
        maker = Maker(seed, list(names))
        given = [name for name in names if maker.dice.below(4)]
        rows = maker.rows(4, 4, False) if seed % 3 else [("loop", maker.mark(), maker.rows(4, 3, True))]
        if 3 < len(marks_of(rows)) < 20:
            found.append(Body(given, rows))
    return found


def marks_of(rows):
    """The marks that stand anywhere in rows, found by their form alone."""
    found = []
    for row in rows:
        if len(row) > 1 and isinstance(row[1], str):
            found.append(row[1])
        for part in row[1:]:
            if isinstance(part, (list, tuple)) and not any(isinstance(held, str) for held in part):
                found.extend(marks_of(part))
    return found


def made_plan(piece, dice):
    """A plan for a piece, in two of three cases one that mostly hands by state."""
    mostly = dice.below(3) > 0
    handings = [{}, {}]
    for name in piece.names():
        for told in handings:
            told[name] = ("state" if dice.below(5) else "none") if mostly else dice.one_of(HANDINGS)
    return Plan(*handings, needed_ways(piece) + [way for way in ("fail", "shut") if dice.below(3)])


def made_cut(body, dice, most):
    """A cut with at most so many calls."""
    calls = []
    for name in ["f", "g", "h"][:1 + dice.below(most)]:
        stretch = dice.one_of(stretches(body))
        call = (name, stretch, made_plan(piece_at(body, stretch), dice))
        try:
            need_apart([*calls, call])
        except Overlap:
            continue
        calls.append(call)
    return Cut(body, calls)


def made_cuts(many, names=("x", "y"), most=3):
    """So many cuts of as many bodies."""
    return [made_cut(body, Dice(k), most) for k, body in enumerate(made_bodies(many, names))]


def made_folds(many, names=("x", "y")):
    """So many tuples (piece, plan, kind), some of which no body of the kind has."""
    found = []
    seed = 0
    while len(found) < many:
        seed += 1
        maker = Maker(seed, list(names))
        dice = maker.dice
        rows = maker.rows(3, 3, dice.below(2) > 0)
        if not rows or not len(Piece(rows)) <= 8:
            continue
        piece, rare = Piece(rows), 1 + dice.below(4)
        words = {name: [word for word in KIND_WORDS if dice.below(rare) == 0] for name in piece.names()}
        kind = Kind(words, [word for word in ("guard", "last", "loop") if dice.below(2)])
        found.append((piece, made_plan(piece, dice), kind))
    return found
