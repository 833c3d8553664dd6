"""[90]: books, which are edited; [10], [11]."""

import unittest

from cutoutpieces.bodies import Body
from cutoutpieces.book import Book
from cutoutpieces.cuts import Cut
from cutoutpieces.errors import BadDeed, Full, NoEntry, NoMark, Nothing, PieceError, Refused, TooMany, Wrong
from cutoutpieces.pieces import piece_at, stretches
from cutoutpieces.plans import Plan
from cutoutpieces.products import is_same, parting
from cutoutpieces.rows import frozen, is_row, lists_of, marks_in, renamed, with_lists
from cutoutpieces.tables import table
from samples import Dice, Maker, made_bodies, made_plan, odd_values

NONE = Plan({}, {}, [])


def do(mark, args=(), name=""):
    return ("do", mark, args, name)


def plain(many):
    """A Body of so many deeds with the marks a, b and so on."""
    return Body([], [do(mark) for mark in "abcdefgh"[:many]])


class Node:
    """A row in a model, which is told from all others by what it is, not by where it stands."""

    def __init__(self, row):
        self.row = row
        self.lists = [[Node(inner) for inner in rows] for rows in lists_of(row)]

    def plain(self):
        return with_lists(self.row, [[node.plain() for node in rows] for rows in self.lists]) if self.lists else frozen(self.row)


class Model:
    """A second reading of what deeds do: calls hold the rows themselves."""

    def __init__(self, cut):
        self.given = cut.body.given
        self.rows = [Node(row) for row in cut.body.rows()]
        self.calls = []
        for mark, (gap, many), plan in cut.calls():
            rows = self.list_at(gap)
            self.calls.append((mark, rows[gap[-1]:gap[-1] + many], plan))

    def list_at(self, gap):
        rows = self.rows
        for k in range(0, len(gap) - 1, 2):
            rows = rows[gap[k]].lists[gap[k + 1]]
        return rows

    def place_of(self, node, rows=None, path=()):
        for index, other in enumerate(self.rows if rows is None else rows):
            if other is node:
                return (*path, index)
            for number, inner in enumerate(other.lists):
                found = self.place_of(node, inner, (*path, index, number))
                if found is not None:
                    return found
        return None

    def put(self, gap, row):
        rows = self.list_at(gap)
        node = Node(row)
        ahead = rows[gap[-1] - 1] if gap[-1] > 0 else None
        behind = rows[gap[-1]] if gap[-1] < len(rows) else None
        rows.insert(gap[-1], node)
        for _, nodes, _ in self.calls:
            if ahead in nodes and behind in nodes:
                nodes.insert(nodes.index(behind), node)

    def out(self, address):
        rows = self.list_at(address)
        node = rows.pop(address[-1])
        for _, nodes, _ in self.calls:
            if node in nodes:
                nodes.remove(node)

    def cut(self):
        calls = [(mark, (self.place_of(nodes[0]), len(nodes)), plan) for mark, nodes, plan in self.calls]
        return Cut(Body(self.given, [node.plain() for node in self.rows]), calls)


def modelled(cut, deed):
    """The Cut behind a put or an out, None if there is none."""
    model = Model(cut)
    try:
        if deed[0] == "put":
            cut.body.rows_from(deed[1])
            model.put(deed[1], deed[2])
        else:
            cut.body.row_at(deed[1])
            model.out(deed[1])
        if any(not nodes or model.place_of(nodes[0]) is None for _, nodes, _ in model.calls):
            return None
        return model.cut()
    except PieceError:
        return None


class Base(unittest.TestCase):
    def refused(self, book, deed, told=None):
        """A deed is refused, and nothing is changed."""
        held = (book.cut, book.log(), book.first)
        ahead = book.copied()
        with self.assertRaises(Refused) as caught:
            book.do(deed)
        self.assertEqual(caught.exception.deed, deed if told is None else told)
        self.assertEqual((book.cut, book.log(), book.first), held)
        self.assertEqual(redone(book), redone(ahead))

    def done(self, book, deed, cut, told=None):
        """A deed leads to a cut, and is undone and done again."""
        ahead, many = book.cut, len(book)
        self.assertIsNone(book.do(deed))
        kept = deed if told is None else told
        self.assertEqual([book.cut, len(book), book.log()[-1]], [cut, many + 1, kept])
        self.assertEqual(book.undo(), kept)
        self.assertEqual([book.cut, len(book)], [ahead, many])
        self.assertEqual(book.redo(), kept)
        self.assertEqual([book.cut, len(book)], [cut, many + 1])


def redone(book):
    """The list of all that can be done again."""
    other, found = book.copied(), []
    while True:
        try:
            found.append(other.redo())
        except Nothing:
            return found


class BookTest(Base):
    def test_the_example(self):
        book = Book(Body(["x"], [("do", "a", [], "x"), ("do", "b", ["x"], "")]))
        book.do(("cut", "f", ((0,), 1), Plan({}, {}, [])))
        self.assertEqual([book.is_same(), book.parting(), "f" in book, len(book)], [False, ["told"], True, 1])
        book["f"] = Plan({}, {"x": "value"}, [])
        self.assertEqual([book.is_same(), book["f"].backs(), book.undo()[0], book.is_same()], [True, {"x": "value"}, "plan", False])

    def test_made_of_a_body(self):
        body = plain(2)
        book = Book(body)
        self.assertEqual([book.first, book.cut, book.log(), len(book), Book.MOST, book.MOST], [body, Cut(body, []), [], 0, 200, 200])
        for thing in odd_values():
            if isinstance(thing, Body):
                self.assertEqual(Book(thing).cut, Cut(thing, []))
                continue
            with self.assertRaises(Wrong) as caught:
                Book(thing)
            self.assertEqual(caught.exception.place, 0)

    def test_put(self):
        book = Book(plain(2))
        self.done(book, ("put", (1,), do("n", ["x"], "y")), Cut(Body([], [do("a"), do("n", ["x"], "y"), do("b")]), []), ("put", (1,), ("do", "n", ("x",), "y")))
        row = ("if", "i", [do("k", ["x", "x"])], [("guard", [do("l")], [])])
        kept = ("if", "i", (("do", "k", ("x", "x"), ""),), (("guard", (("do", "l", (), ""),), ()),))
        self.done(book, ("put", (3,), row), Cut(Body([], [do("a"), do("n", ["x"], "y"), do("b"), row]), []), ("put", (3,), kept))
        row[2].append(do("more"))
        row[2][0][2].append("z")
        self.assertEqual(book.log()[1], ("put", (3,), kept))
        self.assertEqual(book.cut.body.row_at((3,)), kept)
        self.refused(book, ("put", (5,), do("o")))
        self.refused(book, ("put", (0, 0, 0), do("o")))
        self.refused(book, ("put", (1,), do("a")), ("put", (1,), ("do", "a", (), "")))
        self.refused(book, ("put", (1,), ("leave",)))
        self.refused(book, ("put", (0,), ("answer", "o", [])), ("put", (0,), ("answer", "o", ())))
        self.refused(book, ("put", (0,), ("guard", [do("o")], [do("o")])), ("put", (0,), frozen(("guard", [do("o")], [do("o")]))))

    def test_put_that_makes_too_much(self):
        book = Book(Body([], [do("m" + first + second) for first in "abcdefghij" for second in "abcdefghij"]))
        self.refused(book, ("put", (0,), ("do", "a", (), "")))
        deep = ("do", "a", (), "")
        for _ in range(10):
            deep = ("guard", (deep,), ())
        self.refused(Book(plain(1)), ("put", (0,), deep))
        book = Book(Body(list("abcd"), [do("a", ["e", "f", "g"]), do("b", [], "h")]))
        self.refused(book, ("put", (0,), ("do", "c", (), "i")))

    def test_out(self):
        row = ("last", [do("c"), ("if", "i", [do("d")], [])], [do("e")])
        book = Book(Body([], [do("a"), row, do("b")]))
        self.done(book, ("out", (1, 0, 1, 0, 0)), Cut(Body([], [do("a"), ("last", [do("c"), ("if", "i", [], [])], [do("e")]), do("b")]), []))
        self.done(book, ("out", (1,)), Cut(plain(2), []))
        for address in [(2,), (1,), (0, 0, 0), (1, 0, 0)]:
            if address != (1,):
                self.refused(book, ("out", address))
        self.done(book, ("out", (1,)), Cut(plain(1), []))
        self.done(book, ("out", (0,)), Cut(Body([], []), []))
        self.refused(book, ("out", (0,)))

    def test_given(self):
        book = Book(Body(["x"], [do("a", ["x"], "y")]))
        names = ["z", "y", "b"]
        self.done(book, ("given", names), Cut(Body(["b", "y", "z"], [do("a", ["x"], "y")]), []), ("given", ("b", "y", "z")))
        names.append("c")
        self.assertEqual(book.log(), [("given", ("b", "y", "z"))])
        self.done(book, ("given", ()), Cut(Body([], [do("a", ["x"], "y")]), []))
        self.done(book, ("given", []), Cut(Body([], [do("a", ["x"], "y")]), []), ("given", ()))
        book = Book(Body([], [do("a", ["a", "b", "c"]), do("b", ["d", "e", "f"])]))
        self.done(book, ("given", ("h", "g")), Cut(book.cut.body.given_names(["g", "h"]), []), ("given", ("g", "h")))
        self.refused(book, ("given", ("i", "h", "g")), ("given", ("g", "h", "i")))

    def test_name(self):
        body = Body(["x"], [do("x", ["x", "y"], "x"), ("strike", "s", "y"), ("catch", "c", "x", "put"), do("q", ["z"])])
        plans = [Plan({"x": "value", "y": "state"}, {"x": "state"}, ["fail"]), Plan({"x": "state"}, {}, []), Plan({"z": "value"}, {}, [])]
        book = Book(body)
        for k, mark in enumerate("fgh"):
            book.do(("cut", mark, ((k + (k > 0),), 1), plans[k]))
        other = Body(["a"], [do("x", ["a", "y"], "a"), ("strike", "s", "y"), ("catch", "c", "a", "put"), do("q", ["z"])])
        cut = Cut(other, [("f", ((0,), 1), Plan({"a": "value", "y": "state"}, {"a": "state"}, ["fail"])),
                          ("g", ((2,), 1), Plan({"a": "state"}, {}, [])), ("h", ((3,), 1), plans[2])])
        self.done(book, ("name", "x", "a"), cut)
        self.done(book, ("name", "a", "x"), Cut(body, [("f", ((0,), 1), plans[0]), ("g", ((2,), 1), plans[1]), ("h", ((3,), 1), plans[2])]))
        for elder, new in [("x", "y"), ("x", "x"), ("q", "w"), ("a", "b"), ("f", "w"), ("w", "w")]:
            self.refused(book, ("name", elder, new))
        # A given name that stands in no row is one of the body, too.
        book = Book(Body(["x", "w"], [do("a", ["x"])]))
        self.done(book, ("name", "w", "a"), Cut(Body(["a", "x"], [do("a", ["x"])]), []))
        self.refused(book, ("name", "x", "a"))

    def test_mark(self):
        body = Body([], [do("a", ["x"]), ("if", "i", [do("x", [], "y")], [])])
        book = Book(body)
        book.do(("cut", "f", ((1, 0, 0), 1), NONE))
        book.do(("cut", "g", ((0,), 1), Plan({"x": "state"}, {}, [])))
        calls = [("g", ((0,), 1), Plan({"x": "state"}, {}, [])), ("f", ((1, 0, 0), 1), NONE)]
        other = Body([], [do("a", ["x"]), ("if", "b", [do("x", [], "y")], [])])
        self.done(book, ("mark", "i", "b"), Cut(other, calls))
        self.done(book, ("mark", "f", "i"), Cut(other, [calls[0], ("i", ((1, 0, 0), 1), NONE)]))
        self.done(book, ("mark", "x", "y"), Cut(Body([], [do("a", ["x"]), ("if", "b", [do("y", [], "y")], [])]), [calls[0], ("i", ((1, 0, 0), 1), NONE)]))
        for elder, new in [("a", "b"), ("a", "a"), ("a", "g"), ("g", "a"), ("g", "g"), ("g", "i"), ("x", "w"), ("f", "w"), ("w", "w")]:
            self.refused(book, ("mark", elder, new))

    def test_cut_back_and_plan(self):
        body = Body(["x"], [do("a", [], "x"), ("loop", "l", [do("b", ["x"]), ("leave",)]), do("c", ["x"])])
        book, plan = Book(body), Plan({"x": "value"}, {}, ["leave"])
        self.done(book, ("cut", "g", ((1, 0, 0), 2), plan), Cut(body, [("g", ((1, 0, 0), 2), plan)]))
        self.done(book, ("cut", "f", ((0,), 1), NONE), Cut(body, [("f", ((0,), 1), NONE), ("g", ((1, 0, 0), 2), plan)]))
        for deed in [("cut", "h", ((3,), 1), NONE), ("cut", "h", ((2,), 2), NONE), ("cut", "f", ((2,), 1), NONE), ("cut", "a", ((2,), 1), NONE),
                     ("cut", "h", ((0,), 2), NONE), ("cut", "h", ((1,), 1), NONE), ("cut", "h", ((2,), 1), Plan({"y": "value"}, {}, [])),
                     ("cut", "h", ((1, 0, 1), 1), NONE), ("back", "h"), ("back", "a"), ("plan", "h", NONE), ("plan", "a", NONE),
                     ("plan", "g", NONE), ("plan", "f", Plan({"q": "value"}, {}, []))]:
            self.refused(book, deed)
        self.done(book, ("plan", "g", Plan({}, {}, ["leave", "again"])), Cut(body, [("f", ((0,), 1), NONE), ("g", ((1, 0, 0), 2), Plan({}, {}, ["leave", "again"]))]))
        self.done(book, ("back", "f"), Cut(body, [("g", ((1, 0, 0), 2), Plan({}, {}, ["leave", "again"]))]))
        self.done(book, ("back", "g"), Cut(body, []))
        self.assertEqual(book.first, body)

    def test_calls_behind_a_put(self):
        inner = ("if", "i", [do("k")], [])
        body = Body([], [do("a"), ("guard", [do("b"), do("c"), inner, do("d")], [do("e")]), do("f")])
        book = Book(body)
        book.do(("cut", "call", ((1, 0, 1), 2), NONE))
        for gap, stretch in [((0,), ((2, 0, 1), 2)), ((1,), ((2, 0, 1), 2)), ((2,), ((1, 0, 1), 2)), ((3,), ((1, 0, 1), 2)),
                             ((1, 0, 0), ((1, 0, 2), 2)), ((1, 0, 1), ((1, 0, 2), 2)), ((1, 0, 2), ((1, 0, 1), 3)), ((1, 0, 3), ((1, 0, 1), 2)),
                             ((1, 0, 4), ((1, 0, 1), 2)), ((1, 0, 2, 0, 0), ((1, 0, 1), 2)), ((1, 0, 2, 1, 0), ((1, 0, 1), 2)),
                             ((1, 1, 0), ((1, 0, 1), 2)), ((1, 1, 1), ((1, 0, 1), 2))]:
            other = book.copied()
            other.do(("put", gap, do("new")))
            self.assertEqual(other.cut, Cut(body.put(gap, do("new")), [("call", stretch, NONE)]))

    def test_calls_behind_an_out(self):
        inner = ("if", "i", [do("k")], [])
        body = Body([], [do("a"), ("guard", [do("b"), do("c"), inner, do("d")], [do("e")]), do("f")])
        book = Book(body)
        book.do(("cut", "call", ((1, 0, 1), 2), NONE))
        for address, stretch in [((0,), ((0, 0, 1), 2)), ((2,), ((1, 0, 1), 2)), ((1, 0, 0), ((1, 0, 0), 2)), ((1, 0, 1), ((1, 0, 1), 1)),
                                 ((1, 0, 2), ((1, 0, 1), 1)), ((1, 0, 3), ((1, 0, 1), 2)), ((1, 0, 2, 0, 0), ((1, 0, 1), 2)), ((1, 1, 0), ((1, 0, 1), 2))]:
            other = book.copied()
            other.do(("out", address))
            self.assertEqual(other.cut, Cut(body.out(address), [("call", stretch, NONE)]))
        # No row of the piece would be left.
        self.refused(book, ("out", (1,)))
        book.do(("out", (1, 0, 1)))
        self.refused(book, ("out", (1, 0, 1)))
        book.do(("back", "call"))
        self.done(book, ("out", (1, 0, 1)), Cut(Body([], [do("a"), ("guard", [do("b"), do("d")], [do("e")]), do("f")]), []))

    def test_a_row_around_a_piece_is_not_taken_out_though_others_would_stand_there(self):
        book = Book(Body([], [("guard", [do("a")], []), ("guard", [do("b")], [])]))
        book.do(("cut", "f", ((0, 0, 0), 1), NONE))
        self.refused(book, ("out", (0,)))
        self.refused(book, ("out", (0, 0, 0)))
        self.done(book, ("out", (1,)), Cut(Body([], [("guard", [do("a")], [])]), [("f", ((0, 0, 0), 1), NONE)]))
        book = Book(plain(2))
        book.do(("cut", "f", ((0,), 1), NONE))
        self.refused(book, ("out", (0,)))

    def test_plans_that_do_not_fit_any_more(self):
        book = Book(Body([], [("loop", "l", [do("a", ["x"], "y"), do("b", ["y"]), do("c")])]))
        book.do(("cut", "f", ((0, 0, 0), 2), Plan({"x": "value"}, {"y": "value"}, [])))
        self.refused(book, ("out", (0, 0, 0)))
        self.done(book, ("out", (0, 0, 1)), Cut(Body([], [("loop", "l", [do("a", ["x"], "y"), do("c")])]),
                                                [("f", ((0, 0, 0), 1), Plan({"x": "value"}, {"y": "value"}, []))]))
        book.undo()
        row = ("if", "i", (("leave",),), ())
        self.refused(book, ("put", (0, 0, 1), row))
        self.refused(book, ("put", (0, 0, 1), ("do", "f", (), "")))
        book.do(("plan", "f", Plan({"x": "value"}, {"y": "value"}, ["leave"])))
        book.do(("put", (0, 0, 1), row))
        self.assertEqual(book.cut.calls(), [("f", ((0, 0, 0), 3), Plan({"x": "value"}, {"y": "value"}, ["leave"]))])
        self.refused(book, ("put", (0, 0, 0, 0, 0), ("do", "f", (), "")))

    def test_puts_and_outs_against_a_model(self):
        told = {"put": 0, "out": 0, "refused": 0, "grown": 0}
        for k, body in enumerate(made_bodies(150, ("x", "y"))):
            dice, maker = Dice(k), Maker(k, ["x", "y"])
            maker.marks = 300
            book = Book(body)
            for mark in "fgh":
                stretch = dice.one_of(stretches(body))
                try:
                    book.do(("cut", mark, stretch, made_plan(piece_at(body, stretch), dice)))
                except Refused:
                    continue
            for _ in range(12):
                body = book.cut.body
                gap = dice.one_of(body.gaps())
                deed = ("put", gap, frozen(maker.row(2, 2, True))) if dice.below(3) else ("out", dice.one_of(body.addresses() or [(0,)]))
                cut, held = modelled(book.cut, deed), book.cut
                if cut is None:
                    told["refused"] += 1
                    self.refused(book, deed)
                else:
                    told[deed[0]] += 1
                    self.done(book, deed, cut)
                    told["grown"] += sum(stretch[1] for _, stretch, _ in cut.calls()) > sum(stretch[1] for _, stretch, _ in held.calls())
        self.assertTrue(min(told.values()) > 30, told)

    def test_bad_deeds(self):
        book = Book(plain(3))
        book.do(("cut", "f", ((0,), 1), NONE))
        bad = [("put",), ("put", (0,)), ("put", [0], do("n")), ("put", (0, 0), do("n")), ("put", (), do("n")), ("put", (0,), ["do", "n", [], ""]),
               ("put", (0,), ("do", "n", [])), ("put", (0,), do("N")), ("put", (-1,), do("n")), ("put", (True,), do("n")), ("put", (0,), do("n"), 1),
               ("out",), ("out", 0), ("out", [0]), ("out", (0, 1)), ("out", (False,)), ("given",), ("given", "x"), ("given", ["x", "x"]),
               ("given", {"x": 1}), ("given", ["a", "b", "c", "d", "e"]), ("given", [""]), ("given", ("x",), ()), ("name", "x"), ("name", "x", "Y"),
               ("name", "", "y"), ("name", 1, "y"), ("mark", "a"), ("mark", "a", None), ("mark", ["a"], "b"), ("cut", "f", ((0,), 1)),
               ("cut", "F", ((0,), 1), NONE), ("cut", "g", [(0,), 1], NONE), ("cut", "g", ((0,), 0), NONE), ("cut", "g", ((0,), True), NONE),
               ("cut", "g", ((0, 0), 1), NONE), ("cut", "g", (0, 1), NONE), ("cut", "g", ((0,), 1), None), ("cut", "g", ((0,), 1), Plan), ("back",),
               ("back", "F"), ("back", None), ("back", "f", "f"), ("plan", "f"), ("plan", "f", {}), ("plan", 0, NONE), ("undo",), ("redo",), ("", "f"),
               ["back", "f"], ["put", (0,), do("n")], ("Back", "f"), (("back",), "f"), (None, "f"), (["back"], "f"), ({}, "f"), ("back", "abcdefghi")]
        for deed in bad + odd_values():
            with self.assertRaises(BadDeed):
                book.do(deed)
        self.assertEqual([book.cut, len(book)], [Cut(plain(3), [("f", ((0,), 1), NONE)]), 1])

    def test_two_hundred_deeds(self):
        book = Book(plain(2))
        for k in range(200):
            book.do(("given", ["x"] if k % 2 else []))
        held = book.log()
        for deed in [("given", []), ("out", (9,)), ("back", "q")]:
            with self.assertRaises(Full) as caught:
                book.do(deed)
            self.assertEqual(caught.exception.limit, 200)
        with self.assertRaises(BadDeed):
            book.do(("back",))
        self.assertEqual([len(book), book.log()], [200, held])
        self.assertEqual(book.undo(), ("given", ("x",)))
        self.refused(book, ("back", "q"))
        self.assertEqual(book.redo(), ("given", ("x",)))
        with self.assertRaises(Full):
            book["q"] = NONE
        book.undo()
        book.do(("out", (0,)))
        self.assertEqual(len(book), 200)
        self.assertEqual(len(book.past(200)), 200)

    def test_undo_and_redo(self):
        book = Book(plain(3))
        for ask in [book.undo, book.redo]:
            with self.assertRaises(Nothing):
                ask()
        deeds = [("out", (0,)), ("cut", "f", ((0,), 1), NONE), ("mark", "b", "z")]
        cuts = [book.cut]
        for deed in deeds:
            book.do(deed)
            cuts.append(book.cut)
        for k in range(3):
            self.assertEqual(book.undo(), deeds[2 - k])
            self.assertEqual([book.cut, book.log()], [cuts[2 - k], deeds[:2 - k]])
        with self.assertRaises(Nothing):
            book.undo()
        self.assertEqual([book.redo(), book.redo()], deeds[:2])
        self.assertEqual([book.cut, book.log()], [cuts[2], deeds[:2]])
        # A refused deed leaves what can be done again, one that is done does not.
        for bad in [("out", (7,)), ("back", "q")]:
            self.refused(book, bad)
        with self.assertRaises(BadDeed):
            book.do(None)
        self.assertEqual(redone(book), [deeds[2]])
        book.do(("back", "f"))
        with self.assertRaises(Nothing):
            book.redo()
        self.assertEqual(book.undo(), ("back", "f"))
        self.assertEqual(redone(book), [("back", "f")])

    def test_past(self):
        book = Book(plain(3))
        deeds = [("out", (0,)), ("cut", "f", ((0,), 1), NONE), ("mark", "b", "z"), ("plan", "f", Plan({}, {}, ["fail"]))]
        cuts = [book.cut]
        for deed in deeds:
            book.do(deed)
            cuts.append(book.cut)
        book.undo()
        for many in range(4):
            other = book.past(many)
            self.assertEqual([other.cut, other.log(), other.first, redone(other)], [cuts[many], deeds[:many], plain(3), []])
            other.do(("given", ["q"]))
        self.assertEqual([book.cut, book.log(), redone(book)], [cuts[3], deeds[:3], deeds[3:]])
        for many in [-1, 4, 5, 200, -4, 10 ** 30]:
            with self.assertRaises(NoEntry) as caught:
                book.past(many)
            self.assertEqual(caught.exception.many, many)

    def test_copied(self):
        book = Book(plain(3))
        book.do(("out", (0,)))
        book.do(("out", (0,)))
        book.undo()
        other = book.copied()
        self.assertIsNot(other, book)
        self.assertEqual([other, other.cut, redone(other), other.first], [book, book.cut, [("out", (0,))], book.first])
        other.redo()
        self.assertEqual([len(other), len(book), redone(book)], [2, 1, [("out", (0,))]])
        book.do(("given", ["x"]))
        self.assertEqual([len(other), other.cut.body.given, redone(book)], [2, (), []])

    def test_trial(self):
        book = Book(plain(3))
        book.do(("out", (0,)))
        book.do(("cut", "f", ((0,), 1), NONE))
        book.undo()
        held = (book.cut, book.log(), redone(book))

        def act(given):
            self.assertIs(given, book)
            given.do(("given", ["q"]))
            given.do(("out", (1,)))
            given.undo()
            return [given.cut, given.log(), redone(given)]

        told = book.trial(act)
        self.assertEqual(told, [Cut(plain(3).out((0,)).given_names(["q"]), []), [("out", (0,)), ("given", ("q",))], [("out", (1,))]])
        self.assertEqual((book.cut, book.log(), redone(book)), held)
        self.assertEqual(book.trial(lambda given: [given.undo(), given.undo() if len(given) else None, given.redo()]), [("out", (0,)), None, ("out", (0,))])
        self.assertEqual((book.cut, book.log(), redone(book)), held)
        self.assertIsNone(book.trial(lambda given: None))

    def test_trials_that_end_by_an_error(self):
        book = Book(plain(3))
        book.do(("out", (0,)))
        book.undo()
        held = (book.cut, book.log(), redone(book))

        class Stop(Exception):
            pass

        def act(given):
            given.do(("given", ["q"]))
            given.do(("out", (9,)))

        def stop(given):
            given.do(("given", ["q"]))
            raise Stop("gone")

        with self.assertRaises(Refused) as caught:
            book.trial(act)
        self.assertEqual(caught.exception.deed, ("out", (9,)))
        with self.assertRaises(Stop) as caught:
            book.trial(stop)
        self.assertEqual(str(caught.exception), "gone")
        with self.assertRaises(TypeError):
            book.trial(lambda: 1)
        self.assertEqual((book.cut, book.log(), redone(book)), held)

        # Within another one.
        def outer(given):
            given.do(("given", ["x"]))
            inner = given.trial(lambda other: [other.do(("out", (0,))), len(other.cut.body)])
            with self.assertRaises(Stop):
                given.trial(stop)
            return [inner, given.log(), len(given.cut.body), redone(given)]

        self.assertEqual(book.trial(outer), [[None, 2], [("given", ("x",))], 3, []])
        self.assertEqual((book.cut, book.log(), redone(book)), held)

    def test_plans_by_marks(self):
        book = Book(Body(["x"], [do("a", ["x"], "y"), do("b")]))
        book.do(("cut", "f", ((0,), 1), NONE))
        self.assertEqual([book["f"], "f" in book, "a" in book, "x" in book], [NONE, True, False, False])
        plan = Plan({"x": "value"}, {"y": "value"}, ["fail"])
        book["f"] = plan
        self.assertEqual([book["f"], book.log()[-1]], [plan, ("plan", "f", plan)])
        for thing in odd_values() + ["a", "g"]:
            self.assertIs(thing in book, False)
            with self.assertRaises(NoMark) as caught:
                book[thing]
            self.assertEqual(repr(caught.exception.mark), repr(thing))
            error = BadDeed if not isinstance(thing, str) or thing not in ("a", "x", "abcdefgh", "look", "put", "end", "value", "state", "none", "told", "unset", "loop", "g") else Refused
            with self.assertRaises(error):
                book[thing] = plan
        with self.assertRaises(Refused) as caught:
            book["f"] = Plan({"q": "value"}, {}, [])
        self.assertEqual(caught.exception.deed, ("plan", "f", Plan({"q": "value"}, {}, [])))
        for thing in [None, {}, "value", Plan]:
            with self.assertRaises(BadDeed):
                book["f"] = thing
        self.assertEqual([book["f"], len(book)], [plan, 2])

    def test_plans_by_marks_of_several_calls(self):
        plans = {"h": NONE, "f": Plan({"x": "value"}, {}, []), "g": Plan({}, {"y": "state"}, ["fail"])}
        book = Book(Body(["x"], [do("a", ["x"], "y"), do("b", ["x"], "y"), do("c", ["x"], "y")]))
        for k, mark in enumerate(plans):
            book.do(("cut", mark, ((2 - k,), 1), plans[mark]))
        cut = book.cut
        self.assertEqual({mark: book[mark] for mark in plans}, plans)
        for thing in odd_values() + ["a", "b", "c", "x", "y", "i", ["f"], ("f",), {"f": 0}, b"f", cut.calls()]:
            self.assertIs(thing in book, False)
            with self.assertRaises(NoMark) as caught:
                book[thing]
            self.assertEqual(repr(caught.exception.mark), repr(thing))
        for thing in [True, None, ["f"], ("f",), "a", cut]:
            with self.assertRaises(NoMark) as caught:
                book[thing]
            self.assertIs(caught.exception.mark, thing)
        self.assertEqual([book.cut, len(book)], [cut, 3])
        other = Plan({"x": "state"}, {}, ["shut"])
        for k, mark in enumerate("fgh"):
            book[mark] = other
            plans[mark] = other
            self.assertEqual({mark: book[mark] for mark in plans}, plans)
            self.assertEqual([book.log()[-1], len(book)], [("plan", mark, other), 4 + k])
        for mark in ["a", "x", "i"]:
            with self.assertRaises(Refused) as caught:
                book[mark] = other
            self.assertEqual(caught.exception.deed, ("plan", mark, other))
        for thing in [True, None, ["f"], ("f",), 0, b"f", cut]:
            with self.assertRaises(BadDeed):
                book[thing] = other
        self.assertEqual([{mark: book[mark] for mark in plans}, len(book)], [plans, 6])

    def test_equal(self):
        book, other = Book(plain(2)), Book(plain(2))
        self.assertTrue(book == other)
        book.do(("out", (0,)))
        self.assertFalse(book == other)
        other.do(("out", (0,)))
        self.assertTrue(book == other)
        # The same cut, but other deeds.
        other.undo()
        other.do(("mark", "a", "z"))
        other.do(("out", (0,)))
        self.assertEqual(book.cut, other.cut)
        self.assertFalse(book == other)
        self.assertFalse(Book(plain(1)) == Book(plain(2)))
        # What can be done again does not count.
        book.do(("given", ["x"]))
        book.undo()
        self.assertTrue(book == book.past(1))
        books = [Book(plain(2)), Book(plain(2))]
        for held, names in zip(books, [["y", "x"], ("x", "y")]):
            held.do(("given", names))
            held.do(("put", (0,), do("n", list(names[:1] if names[0] == "x" else names[1:]), "")))
        self.assertTrue(books[0] == books[1])
        for thing in odd_values() + [book.cut, book.first, book.log()]:
            self.assertFalse(book == thing)
            self.assertTrue(book != thing)

    def test_same_and_parting(self):
        for k, body in enumerate(made_bodies(40, ("x", "y"))):
            dice, book = Dice(k), Book(body)
            for mark in "fg":
                stretch = dice.one_of(stretches(body))
                try:
                    book.do(("cut", mark, stretch, made_plan(piece_at(body, stretch), dice)))
                except Refused:
                    pass
            self.assertIs(book.is_same(), is_same(book.cut))
            self.assertEqual(book.parting(), parting(book.cut))
        book = Book(Body(["x"], [do("a", ["x"]), do("b")]))
        self.assertEqual([book.is_same(most=1), book.parting(most=1)], [True, None])
        book.do(("cut", "f", ((0,), 1), Plan({"x": "value"}, {}, [])))
        most = len(table(book.cut, "x"))
        self.assertEqual([book.is_same(most=most), book.parting(most=most)], [True, None])
        for ask in [book.is_same, book.parting]:
            with self.assertRaises(TooMany) as caught:
                ask(most=most - 1)
            self.assertEqual(caught.exception.most, most - 1)
        self.assertEqual(len(book), 1)

    def test_names_and_marks_exchanged(self):
        # [11]
        for k, body in enumerate(made_bodies(30, ("x", "y"))):
            dice, book, other = Dice(k), Book(body), None
            stretch = dice.one_of(stretches(body))
            plan = made_plan(piece_at(body, stretch), dice)
            book.do(("cut", "f", stretch, plan))
            other = book.copied()
            for name in body.names():
                other.do(("name", name, "n" + name))
            for mark in [*body.marks(), "f"]:
                other.do(("mark", mark, "o" + mark))
            self.assertEqual(other.cut.body.rows(), renamed(body.rows(), {name: "n" + name for name in body.names()},
                                                            {mark: "o" + mark for mark in marks_in(body.rows())}))
            self.assertEqual([other.is_same(), other["of"].told], [book.is_same(), plan.told])
            for name in piece_at(body, stretch).names():
                self.assertEqual(other["of"]["n" + name], plan[name])

    def test_the_body_comes_again_without_calls(self):
        # [10]
        for k, body in enumerate(made_bodies(30, ("x", "y"))):
            dice, book = Dice(k), Book(body)
            for mark in "fgh":
                stretch = dice.one_of(stretches(body))
                try:
                    book.do(("cut", mark, stretch, made_plan(piece_at(body, stretch), dice)))
                except Refused:
                    pass
            for mark in book.cut.marks():
                book.do(("back", mark))
            self.assertEqual(book.cut, Cut(body, []))

    def test_what_is_told_is_new(self):
        book = Book(plain(2))
        book.do(("out", (0,)))
        book.log().clear()
        self.assertEqual(book.log(), [("out", (0,))])
        for thing in odd_values():
            if isinstance(thing, tuple) and is_row(thing):
                other = Book(Body([], [("loop", "zz", [])]))
                try:
                    other.do(("put", (0, 0, 0), thing))
                except Refused:
                    continue
                self.assertEqual(other.log(), [("put", (0, 0, 0), frozen(thing))])


if __name__ == "__main__":
    unittest.main()
