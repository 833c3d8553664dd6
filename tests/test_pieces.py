"""[40]: pieces, ways out by the form, and stretches."""

import copy
import unittest

from cutoutpieces.bodies import Body
from cutoutpieces.errors import Deep, Full, Many, NoStretch, NotLast, Twice, Wrong
from cutoutpieces.pieces import Piece, is_stretch, piece_at, stands_in, stretches, ways_of
from cutoutpieces.rows import are_rows, count, frozen, lists_of, marks_in, names_in
from cutoutpieces.spots import standings
from samples import Maker, made_bodies, odd_values, plain_rows, rows_deep

JUMPS = [("leave",), ("again",), ("answer", "w", [])]
LOOPED = [("loop", "more", [("do", "a", ["x"], "y"), ("if", "big", [("leave",)], [])]), ("do", "b", ["y"], "")]


def do(name):
    """A deed without names."""
    return ("do", name, [], "")


class PieceTest(unittest.TestCase):
    def raises(self, error, value, rows):
        with self.assertRaises(error) as held:
            Piece(rows)
        self.assertIs(held.exception.__class__, error)
        self.assertEqual(repr(list(vars(held.exception).values())), repr([value]))

    def test_the_example(self):
        looped = Body(["x"], LOOPED)
        piece = piece_at(looped, ((0, 0, 0), 2))
        self.assertEqual([len(piece), piece.names(), piece.ways()], [3, ["x", "y"], ["end", "fail", "leave"]])
        self.assertEqual(len(stretches(looped)), 7)

    def test_what_it_tells(self):
        rows = [("if", "m", [("catch", "b", "z", "look")], [("strike", "a", "y"), ("again",)]), ("answer", "c", ("x", "x"))]
        for shut_in in [list, tuple]:
            piece = Piece(shut_in(rows))
            self.assertEqual(piece.rows(), [frozen(row) for row in rows])
            self.assertIsInstance(piece.rows(), list)
            self.assertEqual([piece.names(), piece.marks(), len(piece)], [["x", "y", "z"], ["a", "b", "c", "m"], 5])
            self.assertEqual(piece.ways(), ["again", "answer", "fail"])

    def test_wrong(self):
        for thing in odd_values():
            with self.subTest(thing=repr(thing)[:80]):
                if repr(thing) in ["[('leave',)]", "(('leave',),)"]:
                    self.assertEqual(Piece(thing).ways(), ["leave"])
                else:
                    self.raises(Wrong, 0, thing)
        for thing in [[], (), [["leave"]], ("leave",), [("leave",), None], {("leave",): 1}, [("do", "a", [], None)], "",
                      Piece([("leave",)]), [Piece([("leave",)])], [*plain_rows(101), ("do",)]]:
            self.raises(Wrong, 0, thing)

    def test_full(self):
        self.assertEqual(len(Piece(plain_rows(100))), 100)
        self.raises(Full, 100, plain_rows(101))
        self.assertEqual(len(Piece([("guard", plain_rows(98), [("leave",)])])), 100)
        self.raises(Full, 100, [("guard", plain_rows(99), [("leave",)])])

    def test_deep(self):
        self.assertEqual(len(Piece(rows_deep(10))), 10)
        self.raises(Deep, 10, rows_deep(11))
        self.raises(Deep, 10, [do("b"), ("last", [], rows_deep(10))])

    def test_many(self):
        eight = [("do", "g", ["a", "b", "c"], "d"), ("do", "h", ["e", "f", "g"], "h")]
        self.assertEqual(Piece(eight).names(), list("abcdefgh"))
        for row in [("do", "n", [], "i"), ("strike", "n", "i"), ("catch", "n", "i", "look"), ("answer", "n", ["a", "i"]),
                    ("guard", [("yield", "n", ["i"], "")], [])]:
            self.raises(Many, 8, [*eight, row])

    def test_twice(self):
        self.raises(Twice, "a", [do("b"), ("if", "b", [do("a")], [("loop", "a", [])])])
        self.raises(Twice, "b", [do("b"), ("strike", "b", "a")])

    def test_not_last(self):
        for jump in JUMPS:
            self.raises(NotLast, (0,), [jump, do("b")])
            self.raises(NotLast, (1, 0, 1), [do("b"), ("guard", [do("c"), jump, do("d")], [])])
            self.raises(NotLast, (0, 1, 0), [("if", "c", [], [jump, do("d")]), ("again",), ("leave",)])
            self.assertEqual(len(Piece([do("b"), jump])), 2)

    def test_a_leave_in_no_loop(self):
        for word in ["leave", "again"]:
            for rows in [[(word,)], [do("a"), (word,)], [("guard", [(word,)], [(word,)])], [("last", [], [(word,)])],
                         [("loop", "a", [(word,)]), (word,)], [("if", "a", [(word,)], [])]]:
                self.assertIs(word in Piece(rows).ways(), True)

    def test_which_error_comes_first(self):
        many = [("do", "g", ["a", "b", "c"], "d"), ("do", "h", ["e", "f", "g"], "h"), ("do", "i", [], "i")]
        faults = [(plain_rows(101), Full, 100), (rows_deep(11), Deep, 10), (many, Many, 8), ([do("t"), do("t")], Twice, "t"),
                  ([("answer", "u", []), do("v")], NotLast, None)]
        for first in range(5):
            for later in range(first + 1, 5):
                for lists in [[faults[first][0], faults[later][0]], [faults[later][0], faults[first][0]]]:
                    with self.assertRaises(faults[first][1]) as held:
                        Piece([("guard", *lists)])
                    self.assertIs(held.exception.__class__, faults[first][1])
                    if faults[first][2] is not None:
                        self.assertEqual(list(vars(held.exception).values()), [faults[first][2]])

    def test_equal(self):
        piece = Piece([("do", "a", ["x"], ""), ("leave",)])
        self.assertIs(piece == Piece((("do", "a", ("x",), ""), ("leave",))), True)
        self.assertIs(piece != Piece((("do", "a", ("x",), ""), ("leave",))), False)
        for other in [Piece([("do", "a", ["x"], ""), ("again",)]), Piece([("do", "a", ["x"], "")]), *odd_values(),
                      piece.rows(), tuple(piece.rows()), Body(["x"], [("do", "a", ["x"], "")])]:
            self.assertIs(piece == other, False)
            self.assertIs(piece != other, True)
        self.assertIs(Body([], [do("a")]) == Piece([do("a")]), False)
        self.assertIs(Piece([do("a")]) == Body([], [do("a")]), False)

    def test_copies_and_new_lists(self):
        reads, inner = ["x"], [do("b")]
        rows = [("do", "a", reads, ""), ("loop", "c", inner)]
        kept = copy.deepcopy(rows)
        piece = Piece(rows)
        self.assertEqual(rows, kept)
        reads.append("y")
        inner.append(("leave",))
        rows.append(("leave",))
        self.assertEqual(piece, Piece(kept))
        self.assertEqual([len(piece), piece.names()], [3, ["x"]])
        for ask in [piece.rows, piece.names, piece.marks, piece.ways]:
            told = ask()
            first = list(told)
            told.append("more")
            self.assertEqual(ask(), first)


class WaysTest(unittest.TestCase):
    def need(self, row, ways):
        self.assertEqual(ways_of([row]), ways)

    def test_rows_that_have_no_lists(self):
        self.need(do("a"), ["end", "fail"])
        self.need(("do", "a", ["x"], "x"), ["end", "fail"])
        self.need(("yield", "a", [], ""), ["end", "fail", "shut"])
        self.need(("strike", "a", "x"), ["end", "fail"])
        self.need(("catch", "a", "x", "look"), ["end"])
        self.need(("catch", "a", "x", "put"), ["end"])
        self.need(("leave",), ["leave"])
        self.need(("again",), ["again"])
        self.need(("answer", "a", []), ["answer"])
        self.need(("answer", "a", ()), ["answer"])
        self.need(("answer", "a", ["x"]), ["answer", "fail"])

    def test_lists_of_rows(self):
        self.assertEqual(ways_of([]), ["end"])
        self.assertEqual(ways_of([("catch", "a", "x", "put"), ("leave",)]), ["leave"])
        self.assertEqual(ways_of([do("a"), ("answer", "b", [])]), ["answer", "fail"])
        self.assertEqual(ways_of([do("a"), ("yield", "b", [], "")]), ["end", "fail", "shut"])
        self.assertEqual(ways_of([("guard", [("leave",)], []), ("yield", "b", [], "")]), ["leave"])
        self.assertEqual(ways_of([("if", "c", [("leave",)], [("again",)]), ("answer", "b", [])]), ["again", "fail", "leave"])
        self.assertEqual(ways_of([("last", [], [("answer", "b", [])]), do("a"), ("leave",)]), ["answer"])

    def test_an_if(self):
        self.need(("if", "a", [], []), ["end", "fail"])
        self.need(("if", "a", [("leave",)], []), ["end", "fail", "leave"])
        self.need(("if", "a", [], [("again",)]), ["again", "end", "fail"])
        self.need(("if", "a", [("leave",)], [("answer", "b", [])]), ["answer", "fail", "leave"])
        self.need(("if", "a", [("yield", "c", [], "")], [("answer", "b", [])]), ["answer", "end", "fail", "shut"])

    def test_a_loop(self):
        self.need(("loop", "a", []), ["end", "fail"])
        for jump in JUMPS[:2]:
            self.need(("loop", "a", [jump]), ["end", "fail"])
        self.need(("loop", "a", [("answer", "b", [])]), ["answer", "end", "fail"])
        self.need(("loop", "a", [("yield", "b", [], "")]), ["end", "fail", "shut"])
        self.need(("loop", "a", [("if", "c", [("leave",)], [("again",)])]), ["end", "fail"])

    def test_a_guard(self):
        self.need(("guard", [], []), ["end"])
        self.need(("guard", [], [("leave",)]), ["end"])
        self.need(("guard", [do("a")], []), ["end"])
        self.need(("guard", [do("a")], [("leave",)]), ["end", "leave"])
        self.need(("guard", [do("a"), ("again",)], [do("b")]), ["again", "end", "fail"])
        self.need(("guard", [do("a"), ("again",)], [("answer", "b", [])]), ["again", "answer"])
        self.need(("guard", [("answer", "b", [])], [("leave",)]), ["answer"])
        self.need(("guard", [("answer", "b", ["x"])], [("leave",)]), ["answer", "leave"])
        self.need(("guard", [("yield", "b", [], "")], [("leave",)]), ["end", "leave", "shut"])

    def test_a_last(self):
        self.need(("last", [], []), ["end"])
        self.need(("last", [], [do("a")]), ["end", "fail"])
        self.need(("last", [do("a")], []), ["end", "fail"])
        self.need(("last", [("leave",)], [("catch", "a", "x", "put")]), ["leave"])
        self.need(("last", [("leave",)], [do("a")]), ["fail", "leave"])
        self.need(("last", [("yield", "a", [], "")], [("leave",)]), ["leave"])
        self.need(("last", [("yield", "a", [], "")], [("if", "b", [("leave",)], [])]), ["end", "fail", "leave", "shut"])
        self.need(("last", [("leave",)], [("if", "b", [("again",)], [])]), ["again", "fail", "leave"])
        self.need(("last", [("leave",)], [do("a"), ("answer", "b", [])]), ["answer", "fail"])

    def test_lists_and_tuples(self):
        for body in made_bodies(60):
            self.assertEqual(ways_of(tuple(body.rows())), ways_of(body.rows()))
            if len(body) > 0:
                self.assertEqual(Piece(body.rows()).ways(), ways_of(body.rows()))

    def test_ways_that_runs_come_to(self):
        for seed in range(1, 300):
            maker = Maker(seed, [])
            rows = maker.rows(4, 4, False)
            if count(rows) <= 30:
                body = Body([], rows)
                come = sorted({spot[1][0] for spot, _, _ in standings(body) if spot[0] == ()})
                self.assertEqual(ways_of(rows), come)
        for body in made_bodies(150):
            come = {spot[1][0] for spot, _, _ in standings(body) if spot[0] == ()}
            self.assertLessEqual(come, set(ways_of(body.rows())))


class StretchTest(unittest.TestCase):
    def setUp(self):
        self.body = Body(["x"], LOOPED)

    def test_stretches(self):
        self.assertEqual(stretches(self.body), [
            ((0,), 1), ((0,), 2), ((0, 0, 0), 1), ((0, 0, 0), 2), ((0, 0, 1), 1), ((0, 0, 1, 0, 0), 1), ((1,), 1)])
        self.assertEqual(stretches(Body([], [])), [])
        self.assertEqual(stretches(Body([], [("guard", [], [do("a"), do("b")])])), [
            ((0,), 1), ((0, 1, 0), 1), ((0, 1, 0), 2), ((0, 1, 1), 1)])
        self.assertEqual(len(stretches(Body([], plain_rows(100)))), 5050)
        for body in made_bodies(40):
            told = stretches(body)
            self.assertEqual(told, sorted(told))
            self.assertEqual(told, [(gap, many) for gap in body.gaps() for many in range(1, len(body.rows_from(gap)) + 1)])

    def test_is_stretch(self):
        for body in [self.body, *made_bodies(20)]:
            told = stretches(body)
            for gap in [*body.gaps(), (99,), (0, 9, 0), (0, 0)]:
                for many in range(-2, 8):
                    self.assertIs(is_stretch(body, (gap, many)), (gap, many) in told)

    def test_is_stretch_of_any_value(self):
        body = Body([], [do("a"), do("b")])
        for thing in odd_values():
            self.assertIs(is_stretch(body, thing), repr(thing) == "((0,), 1)")
        for thing in [[(0,), 1], ([0], 1), ((0,), True), ((False,), 1), ((0,), "1"), ((0,), None), ((0,),), ((0,), 1, 1), (0, 1),
                      ((0,), (1,)), ((0,), 3), ((2,), 1), ((1,), 2), ((0,), 0), ((0,), -1), ((-1,), 1), ((0,), 10 ** 30),
                      ((), 1), ((0, 0, 0), 1), ((None,), 1), (None, 1)]:
            self.assertIs(is_stretch(body, thing), False)
        for thing in [((0,), 1), ((0,), 2), ((1,), 1)]:
            self.assertIs(is_stretch(body, thing), True)

    def test_piece_at(self):
        rows = self.body.rows()
        self.assertEqual(piece_at(self.body, ((0,), 2)), Piece(rows))
        self.assertEqual(piece_at(self.body, ((1,), 1)), Piece(rows[1:]))
        self.assertEqual(piece_at(self.body, ((0, 0, 1, 0, 0), 1)), Piece([("leave",)]))
        self.assertEqual(piece_at(self.body, ((0, 0, 0), 1)), Piece([("do", "a", ["x"], "y")]))
        for body in made_bodies(40):
            for gap, many in stretches(body):
                piece = piece_at(body, (gap, many))
                rows = body.rows_from(gap)[:many]
                self.assertEqual([piece.rows(), piece.names(), piece.marks(), len(piece)],
                                 [rows, names_in(rows), sorted(marks_in(rows)), count(rows)])

    def test_no_stretch(self):
        for thing in [((0,), 3), ((2,), 1), ((0, 0, 0), 3), ((0, 0, 1, 1, 0), 1), ((0,), True), [(0,), 1], *odd_values()]:
            if is_stretch(self.body, thing):
                continue
            with self.assertRaises(NoStretch) as held:
                piece_at(self.body, thing)
            self.assertIs(held.exception.stretch, thing)

    def test_stands_in(self):
        for stretch in [((1,), 2), ((0, 0, 1), 2)]:
            at = stretch[0]
            for last, right in [(0, at[-1] == 0), (1, True), (2, True), (3, at[-1] == 2), (4, False)]:
                address = (*at[:-1], last)
                self.assertIs(stands_in(address, stretch), right)
                self.assertIs(stands_in((*address, 0, 0), stretch), right)
                self.assertIs(stands_in((*address, 1, 7, 0, 5), stretch), right)
        self.assertIs(stands_in((0,), ((0, 0, 0), 9)), False)
        self.assertIs(stands_in((0, 1, 0), ((0, 0, 0), 9)), False)
        self.assertIs(stands_in((1, 0, 0), ((0, 0, 0), 9)), False)
        self.assertIs(stands_in((0, 0, 0), ((0,), 1)), True)

    def test_stands_in_counts_the_rows(self):
        for body in made_bodies(40):
            for gap, many in stretches(body):
                inside = [address for address in body.addresses() if stands_in(address, (gap, many))]
                self.assertEqual([body.row_at(address) for address in inside if len(address) == len(gap)],
                                 body.rows_from(gap)[:many])
                self.assertEqual(len(inside), len(piece_at(body, (gap, many))))

    def test_told_lists_are_new(self):
        told = stretches(self.body)
        told.clear()
        self.assertEqual(len(stretches(self.body)), 7)
        ways = ways_of(LOOPED)
        ways.clear()
        self.assertEqual(ways_of(LOOPED), ["end", "fail"])

    def test_names_and_marks_exchanged(self):
        names = {"x": "u", "y": "v", "z": "w"}
        for body in made_bodies(40):
            marks = {mark: "n" + mark[1:][::-1] for mark in body.marks()}
            other = body.renamed(names, marks)
            self.assertEqual(stretches(other), stretches(body))
            for stretch in stretches(body):
                one, two = piece_at(body, stretch), piece_at(other, stretch)
                self.assertEqual(two.ways(), one.ways())
                self.assertEqual([two.names(), two.marks()], [
                    sorted(names[name] for name in one.names()), sorted(marks[mark] for mark in one.marks())])
                self.assertIs(are_rows(two.rows()) and lists_of(two.rows()[0]) is not None, True)
