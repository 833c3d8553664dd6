"""[23]: bodies, with [3], [4], [10] and [11] as far as they touch these."""

import copy
import unittest

from cutoutpieces.bodies import Body
from cutoutpieces.errors import Deep, Full, Many, NoGap, NoLoop, NoMark, NoRow, NotLast, PieceError, Twice, Wrong
from cutoutpieces.rows import frozen, is_row, marks_in
from cutoutpieces.words import is_address
from samples import made_bodies, odd_values, plain_rows, rows_deep

SAVE = [
    ("do", "open", [], "f"),
    ("guard", [("do", "write", ["f", "t"], ""), ("do", "size", ["f"], "n")], [("do", "log", ["t"], "")]),
    ("do", "close", ["f"], ""),
]
JUMPS = [("leave",), ("again",), ("answer", "w", [])]


def named_rows(many):
    """Rows in which so many names stand, in all places."""
    names = "hgfedcba"[:many]
    rows = [("do", "a", list(names[:3]), ""), ("yield", "b", [], names[3]), ("strike", "c", names[4])]
    return [*rows, ("if", "d", [("catch", "e", names[5], "put")], [("answer", "f", list(names[6:]))])]


class RaisesTest(unittest.TestCase):
    def raises(self, error, value, call, *told):
        """The call raises just this error, with this value in its only field."""
        with self.assertRaises(error) as held:
            call(*told)
        self.assertIs(held.exception.__class__, error)
        self.assertEqual(repr(list(vars(held.exception).values())), repr([value]))
        return held.exception


class MakingTest(RaisesTest):
    def test_the_example(self):
        saved = Body(["t"], SAVE)
        self.assertEqual(
            [len(saved), saved.names(), marks_in(SAVE), saved.addresses()],
            [6, ["f", "n", "t"], ["open", "write", "size", "log", "close"],
             [(0,), (1,), (1, 0, 0), (1, 0, 1), (1, 1, 0), (2,)]])
        self.assertEqual([saved.row_at((1, 0, 1)), saved.at_mark("log"), len(saved.out((1,))),
                          len(saved.opened((1,), 0))], [("do", "size", ("f",), "n"), (1, 1, 0), 2, 4])

    def test_given(self):
        self.assertEqual(Body(["y", "x"], []).given, ("x", "y"))
        self.assertEqual(Body(("d", "c", "b", "a"), ()).given, ("a", "b", "c", "d"))
        self.assertEqual(Body([], []).given, ())
        self.assertEqual(Body(["abcdefgh"], []).given, ("abcdefgh",))

    def test_wrong_given(self):
        right = [repr(thing) for thing in [[], (), ["a"], ("a",), ["a", "b"], ("a", "b"), ["leave"], ("leave",),
                                           ("do",)]]
        for thing in odd_values():
            with self.subTest(thing=repr(thing)[:80]):
                if repr(thing) in right:
                    self.assertEqual(Body(thing, []).given, tuple(thing))
                else:
                    self.raises(Wrong, 0, Body, thing, [])
        for thing in [list("abcde"), tuple("abcde"), ["a", "a"], ("x", "y", "x"), ["abcdefghi"], [""], ["a", 1], "ab",
                      {"a": 1}, {"a"}, [["a"]], Body(["a"], [])]:
            self.raises(Wrong, 0, Body, thing, [])

    def test_wrong_rows(self):
        for thing in odd_values():
            with self.subTest(thing=repr(thing)[:80]):
                if repr(thing) in ["[]", "()"]:
                    self.assertEqual(Body([], thing).rows(), [])
                elif repr(thing) in ["[('leave',)]", "(('leave',),)"]:
                    self.raises(NoLoop, (0,), Body, [], thing)
                else:
                    self.raises(Wrong, 1, Body, [], thing)
        for thing in [[["do", "a", [], ""]], [("do", "a", ["w", "x", "y", "z"], "")], [("do", "A", [], "")], [None],
                      [("guard", [("do", "a", [], None)], [])], ("leave",), ("do", "a", [], ""), {("leave",): 1}]:
            self.raises(Wrong, 1, Body, [], thing)

    def test_wrong_comes_first(self):
        self.raises(Wrong, 0, Body, ["a", "a"], None)
        self.raises(Wrong, 0, Body, None, plain_rows(101))
        self.raises(Wrong, 1, Body, [], [*plain_rows(101), ("do",)])
        self.raises(Wrong, 1, Body, [], [("leave",), ("leave", 1)])

    def test_lists_and_tuples_in_each_place(self):
        def rows(shut_in):
            inner = shut_in([("do", "a", shut_in(["x", "y"]), "z"), ("answer", "b", shut_in(["x"]))])
            looped = shut_in([("loop", "d", shut_in([]))])
            return shut_in([("if", "c", inner, shut_in([])), ("guard", looped, shut_in([])),
                            ("last", shut_in([]), shut_in([("yield", "e", shut_in(["z"]), "")]))])
        told = (("if", "c", (("do", "a", ("x", "y"), "z"), ("answer", "b", ("x",))), ()),
                ("guard", (("loop", "d", ()),), ()), ("last", (), (("yield", "e", ("z",), ""),)))
        for shut_in in [list, tuple]:
            body = Body(shut_in(["x"]), rows(shut_in))
            self.assertEqual(body.rows(), list(told))
            self.assertIsInstance(body.rows(), list)
            self.assertEqual(body, Body(("x",), told))

    def test_full(self):
        self.assertEqual(len(Body([], plain_rows(100))), 100)
        self.raises(Full, 100, Body, [], plain_rows(101))
        inner = plain_rows(98)
        self.assertEqual(len(Body([], [("guard", inner[:40], [("last", [], inner[40:])])])), 100)
        self.raises(Full, 100, Body, [], [("guard", inner[:40], [("last", [("leave",)], inner[40:])])])
        self.raises(Full, 100, Body, [], plain_rows(3000))

    def test_deep(self):
        self.assertEqual(len(Body([], rows_deep(10))), 10)
        for many in [11, 12, 14]:
            self.raises(Deep, 10, Body, [], rows_deep(many))
        self.raises(Deep, 10, Body, [], [("do", "b", [], ""), ("if", "c", [], rows_deep(10))])
        self.assertEqual(len(Body([], [("if", "c", [], rows_deep(9)), ("loop", "b", [])])), 11)

    def test_many(self):
        self.assertEqual(Body([], named_rows(8)).names(), list("abcdefgh"))
        self.assertEqual(Body(["h", "a", "b", "c"], named_rows(8)).names(), list("abcdefgh"))
        self.raises(Many, 8, Body, ["i"], named_rows(8))
        self.raises(Many, 8, Body, ["a", "b", "c", "i"], named_rows(8))
        self.raises(Many, 8, Body, [], [*named_rows(8), ("do", "g", [], "i")])
        self.assertEqual(Body(["w", "x", "y", "z"], [("do", "g", ["a", "b", "c"], "d")]).names(), list("abcdwxyz"))
        self.raises(Many, 8, Body, ["w", "x", "y", "z"], [("do", "g", ["a", "b", "c"], "d"), ("strike", "h", "e")])

    def test_names_in_each_place_count(self):
        eight = [("do", "g", ["a", "b", "c"], "d"), ("do", "h", ["e", "f", "g"], "h")]
        for row in [("do", "n", ["i"], ""), ("do", "n", [], "i"), ("yield", "n", ["a", "i"], ""), ("strike", "n", "i"),
                    ("yield", "n", [], "i"), ("catch", "n", "i", "look"), ("answer", "n", ["i"]),
                    ("guard", [("catch", "n", "i", "put")], []), ("last", [], [("strike", "n", "i")])]:
            self.raises(Many, 8, Body, [], [*eight, row])

    def test_twice(self):
        one, two = ("do", "b", [], ""), ("strike", "a", "x")
        self.raises(Twice, "b", Body, [], [one, one])
        self.raises(Twice, "a", Body, [], [one, two, one, two])
        self.raises(Twice, "a", Body, [], [two, ("if", "c", [one], [("loop", "d", [two, one])])])
        self.raises(Twice, "c", Body, [], [("if", "c", [], [("loop", "c", [])])])
        for row in [("do", "m", [], ""), ("yield", "m", [], ""), ("strike", "m", "x"), ("catch", "m", "x", "put"),
                    ("if", "m", [], []), ("loop", "m", []), ("answer", "m", [])]:
            self.raises(Twice, "m", Body, [], [("guard", [("do", "m", [], "")], []), row])
        self.assertEqual(len(Body(["m"], [("do", "m", ["m"], "m"), ("do", "n", ["m"], "m")])), 2)

    def test_not_last(self):
        other = ("do", "b", [], "")
        for jump in JUMPS:
            self.raises(NotLast, (0,), Body, [], [jump, other])
            self.raises(NotLast, (1,), Body, [], [("loop", "a", []), jump, other])
            self.raises(NotLast, (0, 0, 0), Body, [], [("loop", "a", [jump, other])])
            inner = ("if", "c", [], [("do", "d", [], ""), jump, other])
            self.raises(NotLast, (0, 0, 0, 1, 1), Body, [], [("loop", "a", [inner])])
            self.assertEqual(len(Body([], [("loop", "a", [other, jump])])), 3)
        self.assertEqual(len(Body([], [("if", "a", [JUMPS[2]], [("answer", "b", [])]), ("answer", "c", [])])), 4)

    def test_the_least_address_that_is_not_last(self):
        jump, pair = ("answer", "w", []), [("answer", "v", []), ("do", "b", [], "")]
        self.raises(NotLast, (0, 1, 0), Body, [], [("guard", [], pair), jump, ("do", "c", [], "")])
        self.raises(NotLast, (0,), Body, [], [jump, ("guard", pair, [])])
        self.raises(NotLast, (1, 0, 0), Body, [], [("do", "c", [], ""), ("last", pair, [jump, ("do", "d", [], "")])])
        self.raises(NotLast, (2, 1, 1), Body, [], [
            ("loop", "e", []), ("loop", "c", []), ("guard", [("do", "d", [], "")], [("do", "f", [], ""), *pair])])

    def test_no_loop(self):
        for jump in JUMPS[:2]:
            self.raises(NoLoop, (0,), Body, [], [jump])
            self.raises(NoLoop, (1, 1, 0), Body, [], [("loop", "a", [jump]), ("if", "b", [], [jump])])
            self.raises(NoLoop, (0, 0, 0), Body, [], [("guard", [jump], [jump])])
            self.raises(NoLoop, (1,), Body, [], [("last", [], []), jump])
            for word in ["guard", "last"]:
                for lists in [([jump], []), ([], [jump])]:
                    self.raises(NoLoop, (0, 0, 0) if lists[0] else (0, 1, 0), Body, [], [(word, *lists)])
                    self.assertEqual(len(Body([], [("loop", "a", [(word, *lists)])])), 3)
            self.assertEqual(len(Body([], [("loop", "a", [("if", "b", [("last", [], [jump])], [])])])), 4)
        self.assertEqual(len(Body([], [JUMPS[2]])), 1)

    def test_which_error_comes_first(self):
        many = [("do", "g", ["a", "b", "c"], "d"), ("do", "h", ["e", "f", "g"], "h"), ("do", "i", [], "i")]
        twice, not_last, no_loop = [("do", "t", [], "")] * 2, [("answer", "u", []), ("do", "v", [], "")], [("again",)]
        full, deep = plain_rows(101), rows_deep(11)
        faults = [(full, Full, 100), (deep, Deep, 10), (many, Many, 8), (twice, Twice, "t"), (not_last, NotLast, None),
                  (no_loop, NoLoop, None)]
        for first in range(6):
            for later in range(first + 1, 6):
                for pair in [(faults[first], faults[later]), (faults[later], faults[first])]:
                    rows = [("if", "y", pair[0][0], pair[1][0])]
                    with self.assertRaises(faults[first][1]) as held:
                        Body([], rows)
                    self.assertIs(held.exception.__class__, faults[first][1])
                    if faults[first][2] is not None:
                        self.assertEqual(list(vars(held.exception).values()), [faults[first][2]])
        self.raises(NotLast, (1,), Body, [], [("guard", [("again",)], []), ("answer", "u", []), ("do", "v", [], "")])
        self.raises(NotLast, (0,), Body, [], [("again",), ("again",)])


class AskingTest(RaisesTest):
    def setUp(self):
        self.body = Body(["y", "x"], [
            ("if", "m", [("do", "c", ["x"], "")], []), ("loop", "b", [("last", [("leave",)], [("strike", "a", "w")])]),
            ("catch", "d", "v", "put")])

    def test_rows(self):
        self.assertEqual(self.body.rows(), [
            ("if", "m", (("do", "c", ("x",), ""),), ()),
            ("loop", "b", (("last", (("leave",),), (("strike", "a", "w"),)),)),
            ("catch", "d", "v", "put")])
        self.assertEqual(Body([], []).rows(), [])

    def test_addresses(self):
        self.assertEqual(self.body.addresses(), [
            (0,), (0, 0, 0), (1,), (1, 0, 0), (1, 0, 0, 0, 0), (1, 0, 0, 1, 0), (2,)])
        self.assertEqual(Body([], []).addresses(), [])
        told = Body([], plain_rows(12)).addresses()
        self.assertEqual(told, [(k,) for k in range(12)])

    def test_row_at(self):
        self.assertEqual(self.body.row_at((0, 0, 0)), ("do", "c", ("x",), ""))
        self.assertEqual(self.body.row_at((1, 0, 0, 1, 0)), ("strike", "a", "w"))
        self.assertEqual(self.body.row_at((2,)), ("catch", "d", "v", "put"))
        for address in self.body.addresses():
            self.assertIs(is_row(self.body.row_at(address)), True)

    def test_no_row(self):
        others = [(3,), (-1,), (0, 0, 1), (0, 1, 0), (0, 2, 0), (0, -1, 0), (1, 0, 0, 2, 0), (2, 0, 0), (True,),
                  (False,), (0,) * 5, (0, False, 0), [0], [2], "0", 0, (0, 0), (), ((0,),), (0, 0, 0, 0, 0)]
        for thing in [*others, *odd_values()]:
            with self.subTest(thing=repr(thing)[:80]):
                if is_address(thing) and thing in self.body.addresses():
                    continue
                self.assertIs(self.raises(NoRow, thing, self.body.row_at, thing).address, thing)

    def test_gaps(self):
        self.assertEqual(self.body.gaps(), [
            (0,), (0, 0, 0), (0, 0, 1), (0, 1, 0), (1,), (1, 0, 0), (1, 0, 0, 0, 0), (1, 0, 0, 0, 1), (1, 0, 0, 1, 0),
            (1, 0, 0, 1, 1), (1, 0, 1), (2,), (3,)])
        self.assertEqual(Body([], []).gaps(), [(0,)])

    def test_rows_from(self):
        rows = self.body.rows()
        for k in range(4):
            self.assertEqual(self.body.rows_from((k,)), rows[k:])
        self.assertEqual(self.body.rows_from((1, 0, 0, 1, 0)), [("strike", "a", "w")])
        for gap in [(0, 0, 1), (0, 1, 0), (1, 0, 0, 1, 1), (3,)]:
            self.assertEqual(self.body.rows_from(gap), [])
        self.assertEqual(Body([], []).rows_from((0,)), [])

    def test_no_gap(self):
        others = [(4,), (-1,), (0, 0, 2), (0, 1, 1), (0, 2, 0), (2, 0, 0), (1, 1, 0), (True,), (3, 0, 0), [0], "", 0,
                  (), (0, 0), (0, True, 0), (1, 0, 0, 1, 2)]
        for thing in [*others, *odd_values()]:
            with self.subTest(thing=repr(thing)[:80]):
                if is_address(thing) and thing in self.body.gaps():
                    continue
                self.assertIs(self.raises(NoGap, thing, self.body.rows_from, thing).gap, thing)

    def test_names(self):
        self.assertEqual(self.body.names(), ["v", "w", "x", "y"])
        self.assertEqual(Body(["b", "a"], []).names(), ["a", "b"])
        self.assertEqual(Body([], []).names(), [])

    def test_marks(self):
        self.assertEqual(self.body.marks(), ["a", "b", "c", "d", "m"])
        self.assertEqual(Body([], []).marks(), [])

    def test_at_mark(self):
        told = {mark: self.body.at_mark(mark) for mark in self.body.marks()}
        self.assertEqual(told, {"a": (1, 0, 0, 1, 0), "b": (1,), "c": (0, 0, 0), "d": (2,), "m": (0,)})

    def test_no_mark(self):
        body = Body(["x"], [("do", "zz", ["x"], "")])
        for thing in ["x", "zzz", "z", "", "ZZ", 0, ["zz"], ("zz",), {"zz": 1}, *odd_values()]:
            with self.subTest(thing=repr(thing)[:80]):
                self.assertIs(self.raises(NoMark, thing, body.at_mark, thing).mark, thing)
                self.assertIs(thing in body, False)
        self.assertIs("zz" in body, True)

    def test_len(self):
        self.assertEqual([len(self.body), len(Body([], []))], [7, 0])

    def test_equal(self):
        rows = self.body.rows()
        self.assertIs(self.body == Body(["x", "y"], rows), True)
        self.assertIs(self.body != Body(("x", "y"), tuple(rows)), False)
        for other in [Body(["x"], rows), Body([], rows), Body(["x", "y"], rows[:2]), Body(["x", "y"], []),
                      Body(["x", "y"], [*rows[:2], ("catch", "d", "v", "look")]), Body(["x", "z"], rows)]:
            self.assertIs(self.body == other, False)
            self.assertIs(self.body != other, True)
        for other in [*odd_values(), rows, (self.body.given, tuple(rows))]:
            self.assertIs(self.body == other, False)
        self.assertIs(Body([], []) == (), False)
        self.assertIs(Body([], []) == Body((), ()), True)


class ChangingTest(RaisesTest):
    def setUp(self):
        self.body = Body(["t"], SAVE)
        self.row = ("yield", "new", ["t"], "u")

    def test_put(self):
        rows = [frozen(row) for row in SAVE]
        new = frozen(self.row)
        for k in range(4):
            self.assertEqual(self.body.put((k,), self.row).rows(), [*rows[:k], new, *rows[k:]])
        self.assertEqual(self.body.put((1, 0, 2), self.row).row_at((1,)), ("guard", (*rows[1][1], new), rows[1][2]))
        self.assertEqual(self.body.put((1, 1, 0), self.row).row_at((1,)), (*rows[1][:2], (new, *rows[1][2])))
        self.assertEqual(self.body.put((0,), self.row).given, ("t",))
        self.assertEqual(self.body, Body(["t"], SAVE))
        self.assertEqual(Body([], []).put((0,), ("guard", [], [])), Body([], [("guard", (), ())]))

    def test_put_at_each_gap(self):
        for body in made_bodies(60):
            for gap in body.gaps():
                try:
                    told = body.put(gap, ("do", "new", [], ""))
                except NotLast as error:
                    self.assertEqual(error.address, (*gap[:-1], gap[-1] - 1))
                    continue
                self.assertEqual(told.row_at(gap), ("do", "new", (), ""))
                self.assertEqual(told.rows_from(gap)[1:], body.rows_from(gap))
                self.assertEqual(len(told), len(body) + 1)
                self.assertEqual(told.out(gap), body)

    def test_put_wrong(self):
        for thing in odd_values():
            with self.subTest(thing=repr(thing)[:80]):
                if not is_address(thing):
                    self.raises(Wrong, 0, self.body.put, thing, self.row)
                    self.raises(Wrong, 0, self.body.put, thing, None)
                if not is_row(thing):
                    self.raises(Wrong, 1, self.body.put, (0,), thing)
                    self.raises(Wrong, 1, self.body.put, (99,), thing)
        self.raises(Wrong, 0, self.body.put, [0], self.row)
        self.raises(Wrong, 0, self.body.put, (False,), self.row)
        self.raises(Wrong, 1, self.body.put, (0,), list(self.row))

    def test_put_no_gap(self):
        for gap in [(4,), (1, 0, 3), (1, 2, 0), (0, 0, 0), (1, 0, 0, 0, 0), (10 ** 20,)]:
            self.raises(NoGap, gap, self.body.put, gap, self.row)
            self.raises(NoGap, gap, self.body.put, gap, ("do", "open", [], ""))

    def test_put_what_would_come(self):
        full = Body([], plain_rows(99))
        self.assertEqual(len(full.put((99,), ("do", "new", [], ""))), 100)
        self.raises(Full, 100, full.put, (0,), ("guard", [("leave",)], []))
        self.raises(NoLoop, (5,), Body([], plain_rows(5)).put, (5,), ("leave",))
        self.raises(NotLast, (2,), self.body.put, (2,), ("answer", "new", []))
        self.raises(NotLast, (0,), Body([], [("answer", "b", [])]).put, (0,), ("answer", "new", []))
        self.raises(NotLast, (0,), Body([], [("answer", "b", [])]).put, (1,), ("do", "new", [], ""))
        self.raises(Twice, "log", self.body.put, (0,), ("do", "log", [], ""))
        size, log = ("do", "size", [], ""), ("do", "log", [], "")
        self.raises(Twice, "log", self.body.put, (0,), ("if", "write", [size], [log]))
        many, more = ("do", "v", ["a", "b", "c"], "d"), ("do", "w", ["e"], "i")
        self.raises(Many, 8, self.body.put, (0,), ("guard", [many], [more]))
        self.assertEqual(len(self.body.put((0,), many)), 7)
        deep = Body([], rows_deep(10))
        self.raises(Deep, 10, deep.put, (0,) * 19, ("loop", "n", [("leave",)]))
        self.raises(Deep, 10, Body([], []).put, (0,), rows_deep(11)[0])
        inner = Body([], [("loop", "l", [])]).put((0, 0, 0), ("if", "i", [("leave",)], [("again",)]))
        self.assertEqual(len(inner), 4)

    def test_out(self):
        rows = [frozen(row) for row in SAVE]
        self.assertEqual(self.body.out((0,)).rows(), rows[1:])
        self.assertEqual(self.body.out((1,)).rows(), [rows[0], rows[2]])
        self.assertEqual(self.body.out((1, 0, 1)).row_at((1,)), ("guard", rows[1][1][:1], rows[1][2]))
        self.assertEqual(self.body.out((1, 1, 0)).row_at((1,)), ("guard", rows[1][1], ()))
        self.assertEqual(self.body.out((1,)).given, ("t",))
        self.assertEqual(self.body, Body(["t"], SAVE))

    def test_out_of_no_row(self):
        for thing in [(3,), (1, 0, 2), [0], (True,), (1, True, 0), None, *odd_values()]:
            if is_address(thing) and thing in self.body.addresses():
                continue
            self.assertIs(self.raises(NoRow, thing, self.body.out, thing).address, thing)

    def test_opened(self):
        rows = [frozen(row) for row in SAVE]
        self.assertEqual(self.body.opened((1,), 0).rows(), [rows[0], *rows[1][1], rows[2]])
        self.assertEqual(self.body.opened((1,), 1).rows(), [rows[0], *rows[1][2], rows[2]])
        self.assertEqual(self.body.opened((1,), 1).given, ("t",))
        self.assertEqual(Body([], [("if", "a", [], [("do", "b", [], "")])]).opened((0,), 0).rows(), [])
        nested = Body([], [("loop", "a", [("last", [("leave",)], [("if", "b", [("do", "c", [], "")], [])])])])
        self.assertEqual(nested.opened((0, 0, 0), 0), Body([], [("loop", "a", [("leave",)])]))
        self.assertEqual(nested.opened((0, 0, 0, 1, 0), 0),
                         Body([], [("loop", "a", [("last", [("leave",)], [("do", "c", [], "")])])]))

    def test_opened_no_row(self):
        for thing in [(3,), (1, 0, 2), [1], (True,), None, *odd_values()]:
            if is_address(thing) and thing in self.body.addresses():
                continue
            self.assertIs(self.raises(NoRow, thing, self.body.opened, thing, 0).address, thing)
        for thing in odd_values():
            if repr(thing) not in ["0", "1"]:
                self.raises(NoRow, (1,), self.body.opened, (1,), thing)
        for number in [2, -1, True, False, None, "0"]:
            self.raises(NoRow, (1,), self.body.opened, (1,), number)
        for address in [(0,), (1, 0, 0), (2,)]:
            self.raises(NoRow, address, self.body.opened, address, 0)
        looped = Body([], [("loop", "a", [])])
        self.raises(NoRow, (0,), looped.opened, (0,), 1)
        self.assertEqual(len(looped.opened((0,), 0)), 0)

    def test_opened_what_would_come(self):
        looped = Body([], [("do", "a", [], ""), ("loop", "b", [("if", "c", [("again",)], [("leave",)])])])
        self.raises(NoLoop, (1, 0, 0), looped.opened, (1,), 0)
        ends = Body([], [("if", "a", [("answer", "b", [])], [("answer", "c", [])]), ("do", "d", [], "")])
        self.raises(NotLast, (0,), ends.opened, (0,), 0)
        both = Body([], [("loop", "a", [("do", "b", [], ""), ("leave",)]), ("do", "d", [], "")])
        self.raises(NotLast, (1,), both.opened, (0,), 0)

    def test_given_names(self):
        told = self.body.given_names(["n", "f"])
        self.assertEqual([told.given, told.rows()], [("f", "n"), self.body.rows()])
        self.assertEqual(self.body.given_names([]), Body([], SAVE))
        self.assertEqual(self.body.given, ("t",))
        self.assertEqual(Body([], named_rows(8)).given_names(["a", "b", "c", "d"]).given, ("a", "b", "c", "d"))
        self.raises(Many, 8, Body([], named_rows(8)).given_names, ["z"])

    def test_renamed(self):
        names, marks = {"f": "t", "t": "f", "n": "aa"}, {mark: mark + "s" for mark in self.body.marks()}
        told = self.body.renamed(names, marks)
        self.assertEqual(told, Body(["f"], [
            ("do", "opens", [], "t"),
            ("guard", [("do", "writes", ["t", "f"], ""), ("do", "sizes", ["t"], "aa")], [("do", "logs", ["f"], "")]),
            ("do", "closes", ["t"], "")]))
        self.assertEqual(self.body, Body(["t"], SAVE))
        self.assertEqual(Body(["a", "b"], []).renamed({"a": "z", "b": "y"}, {}).given, ("y", "z"))

    def test_names_and_marks_exchanged(self):
        names = {"x": "cc", "y": "bb", "z": "aa"}
        for body in made_bodies(60):
            marks = {mark: "n" + mark[1:][::-1] for mark in body.marks()}
            told = body.renamed(names, marks)
            self.assertEqual(told.addresses(), body.addresses())
            self.assertEqual(told.names(), sorted([names[name] for name in body.names()]))
            for mark in marks:
                self.assertEqual(told.at_mark(marks[mark]), body.at_mark(mark))
            back = told.renamed({names[name]: name for name in names}, {marks[mark]: mark for mark in marks})
            self.assertEqual(back, body)
            for address in body.addresses():
                try:
                    out = body.out(address).renamed(names, marks)
                except PieceError as error:
                    self.assertIsInstance(error, NotLast)
                    continue
                self.assertEqual(out, told.out(address))


class UnchangedTest(unittest.TestCase):
    def test_arguments_stay(self):
        given, rows, row = ["t", "a"], copy.deepcopy(SAVE), ("guard", [("do", "b", ["t"], "")], [])
        names, marks = {"t": "u", "f": "f", "n": "n", "a": "a"}, {}
        body = Body(given, rows)
        body.put((1, 0, 1), row)
        body.given_names(given)
        body.renamed(names, marks)
        self.assertEqual([given, rows, row], [["t", "a"], SAVE, ("guard", [("do", "b", ["t"], "")], [])])
        self.assertEqual([list(names), marks], [["t", "f", "n", "a"], {}])

    def test_a_list_changed_behind_a_call_changes_nothing(self):
        args, inner, given = ["f", "t"], [("do", "size", ["f"], "n")], ["t"]
        rows = [("do", "write", args, ""), ("guard", inner, [])]
        body = Body(given, rows)
        put = body.put((0,), ("do", "z", args, ""))
        kept = Body(["t"], [("do", "write", ["f", "t"], ""), ("guard", [("do", "size", ["f"], "n")], [])])
        args.append("x")
        inner.append(("leave",))
        given.append("z")
        rows.clear()
        self.assertEqual(body, kept)
        self.assertEqual([body.given, len(body), body.names()], [("t",), 3, ["f", "n", "t"]])
        self.assertEqual(put.row_at((0,)), ("do", "z", ("f", "t"), ""))

    def test_told_lists_are_new(self):
        body = Body(["t"], SAVE)
        for ask in [body.rows, body.addresses, body.gaps, body.names, body.marks, lambda: body.rows_from((0,)),
                    lambda: body.rows_from((1, 0, 0))]:
            told = ask()
            kept = list(told)
            told.reverse()
            told.append("more")
            self.assertEqual(ask(), kept)
            self.assertIsNot(ask(), ask())
        self.assertEqual([len(body), "open" in body, body.at_mark("close")], [6, True, (2,)])

    def test_asking_changes_nothing(self):
        body, other = Body(["t"], SAVE), Body(["t"], SAVE)
        for call in [lambda: body.row_at((9,)), lambda: body.put((0,), SAVE[0]), lambda: body.out(None),
                     lambda: body.opened((0,), 0), lambda: body.at_mark("x"), lambda: body.rows_from(7)]:
            with self.assertRaises(PieceError):
                call()
        self.assertEqual([body, body.rows(), body.addresses()], [other, other.rows(), other.addresses()])
