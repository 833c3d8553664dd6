"""[22]: rows by their form, and what stands in them."""

import copy
import unittest

from cutoutpieces import rows as r
from samples import made_bodies, nested, odd_values, plain_rows, rows_deep

SAVE = [
    ("do", "open", [], "f"),
    ("guard", [("do", "write", ["f", "t"], ""), ("do", "size", ["f"], "n")], [("do", "log", ["t"], "")]),
    ("do", "close", ["f"], ""),
]

RIGHT = [
    ("do", "a", [], ""), ("do", "a", ["x"], "y"), ("do", "a", ("x", "x", "x"), "x"), ("do", "abcdefgh", [], "abcdefgh"),
    ("yield", "a", [], ""), ("yield", "a", ["x", "y", "z"], "x"), ("yield", "do", ("do",), "do"),
    ("strike", "a", "x"), ("catch", "a", "x", "look"), ("catch", "a", "x", "put"),
    ("if", "a", [], []), ("if", "a", (), ()), ("if", "a", [("leave",)], (("again",), ("leave",))),
    ("loop", "a", []), ("loop", "a", ()), ("loop", "a", [("loop", "a", [("loop", "a", [])])]),
    ("leave",), ("again",), ("answer", "a", []), ("answer", "a", ("x", "y", "x")),
    ("guard", [], []), ("guard", (), []), ("last", [], ()), ("last", (("do", "a", [], ""),), [("do", "a", (), "")]),
]

WRONG = [
    ("do",), ("do", "a"), ("do", "a", []), ("do", "a", [], "", ""), ["do", "a", [], ""], ("do", "", [], ""),
    ("do", "A", [], ""), ("do", "abcdefghi", [], ""), ("do", 1, [], ""), ("do", None, [], ""), ("do", "a", "x", ""),
    ("do", "a", {"x"}, ""), ("do", "a", {"x": 1}, ""), ("do", "a", None, ""), ("do", "a", ["w", "x", "y", "z"], ""),
    ("do", "a", ["x", "x", "x", "x"], ""), ("do", "a", [""], ""), ("do", "a", ["x", 1], ""), ("do", "a", [["x"]], ""),
    ("do", "a", [], None), ("do", "a", [], "X"), ("do", "a", [], "abcdefghi"), ("do", "a", [], []), ("do", "a", [], 0),
    ("do", "a", [], ["x"]), ("do", "a", [], b""), ("Do", "a", [], ""), ("", "a", [], ""), (b"do", "a", [], ""),
    ("yield", "a", [], 1), ("yield", "a", ["x", "x", "x", "x"], ""), ("yield", "a", []), ("strike", "a"),
    ("strike", "a", ""), ("strike", "", "x"), ("strike", "a", ["x"]), ("strike", "a", "x", "y"), ("catch", "a", "x"),
    ("catch", "a", "x", "read"), ("catch", "a", "", "look"), ("catch", "", "x", "look"), ("catch", "a", "x", None),
    ("catch", "a", "x", ["look"]), ("catch", "a", "x", "look", "put"), ("if", "a", []), ("if", [], []),
    ("if", "a", [], [], []), ("if", "", [], []), ("if", "a", None, []), ("if", "a", [], None), ("if", "a", [1], []),
    ("if", "a", [], [("do",)]), ("if", "a", ("leave",), []), ("if", "a", "", []), ("if", "a", {}, []), ("loop", "a"),
    ("loop", []), ("loop", "a", [], []), ("loop", "a", [None]), ("loop", "a", [["leave"]]), ("loop", "A", []),
    ("leave", "a"), ("leave", []), ("again", "a"), ("again", 0), ("answer", "a"), ("answer",), ("answer", []),
    ("answer", "a", ["w", "x", "y", "z"]), ("answer", "a", [], ""), ("answer", "a", [""]), ("guard", []),
    ("guard", [], [], []), ("guard", "a", [], []), ("guard", [], [0]), ("guard", [()], []), ("last", []),
    ("last", [], "a"), ("last", "a", [], []), ("last", {}, []), (), ("x",), (("leave",),), (1, "a"), (None,), (True,),
    ([],), "leave", ("told",),
]


def frozen_by_hand(thing):
    """The value with tuples for lists."""
    return tuple([frozen_by_hand(held) for held in thing]) if isinstance(thing, (list, tuple)) else thing


class FormTest(unittest.TestCase):
    def test_rows(self):
        for row in RIGHT:
            with self.subTest(row=row):
                self.assertIs(r.is_row(row), True)

    def test_no_rows(self):
        for row in WRONG:
            with self.subTest(row=row):
                self.assertIs(r.is_row(row), False)

    def test_any_value(self):
        right = [("leave",), ("do", "a", [], "")]
        for thing in odd_values():
            deep = isinstance(thing, tuple) and repr(thing).startswith("('guard'")
            with self.subTest(thing=repr(thing)[:80]):
                self.assertIs(r.is_row(thing), deep or repr(thing) in [repr(row) for row in right])

    def test_inside_of_lists(self):
        for row in RIGHT:
            self.assertIs(r.is_row(("guard", [row], [])), True)
            self.assertIs(r.is_row(("last", (), (row, row))), True)
            self.assertIs(r.is_row(("if", "a", [], [("loop", "a", [row])])), True)
        for row in WRONG:
            self.assertIs(r.is_row(("guard", [("leave",), row], [])), False)
            self.assertIs(r.is_row(("last", (), [row])), False)
            self.assertIs(r.is_row(("if", "a", [row], [])), False)
            self.assertIs(r.is_row(("if", "a", [], [("loop", "a", [row])])), False)

    def test_deep_and_long(self):
        self.assertIs(r.is_row(nested(14, ("do", "a", [], ""), lambda thing: ("last", (), [thing]))), True)
        self.assertIs(r.is_row(nested(14, ("do", "a", [], 1), lambda thing: ("guard", [thing], ()))), False)
        self.assertIs(r.are_rows(plain_rows(3000)), True)
        self.assertIs(r.are_rows([*plain_rows(3000), None]), False)

    def test_are_rows(self):
        self.assertIs(r.are_rows([]), True)
        self.assertIs(r.are_rows(()), True)
        self.assertIs(r.are_rows(RIGHT), True)
        self.assertIs(r.are_rows(tuple(RIGHT)), True)
        for row in WRONG:
            self.assertIs(r.are_rows([RIGHT[0], row]), False)
        for thing in [None, "", {}, {("leave",): 1}, {("leave",)}, ("leave",), 0, True, RIGHT[0], [RIGHT], "leave"]:
            self.assertIs(r.are_rows(thing), False)

    def test_are_rows_of_any_value(self):
        right = ["[]", "()", "[('leave',)]", "(('leave',),)"]
        for thing in odd_values():
            with self.subTest(thing=repr(thing)[:80]):
                self.assertIs(r.are_rows(thing), repr(thing) in right)


class PartsTest(unittest.TestCase):
    def test_frozen(self):
        for row in [*RIGHT, *SAVE]:
            self.assertEqual(r.frozen(row), frozen_by_hand(row))
        self.assertEqual(r.frozen(SAVE[1]), ("guard", (("do", "write", ("f", "t"), ""), ("do", "size", ("f",), "n")),
                                             (("do", "log", ("t",), ""),)))

    def test_lists_of(self):
        inner = ("do", "b", ["x"], "")
        outer = ("if", "a", [inner], ())
        self.assertEqual(r.lists_of(outer), [[("do", "b", ("x",), "")], []])
        self.assertEqual(r.lists_of(("loop", "a", (("guard", [inner], []),))),
                         [[("guard", (("do", "b", ("x",), ""),), ())]])
        self.assertEqual(r.lists_of(("guard", [], [("leave",)])), [[], [("leave",)]])
        self.assertEqual(r.lists_of(("last", [("again",)], [])), [[("again",)], []])
        for row in RIGHT:
            if row[0] not in ("if", "loop", "guard", "last"):
                self.assertEqual(r.lists_of(row), [])

    def test_lists_of_are_new(self):
        row = ("guard", (("leave",),), (("leave",),))
        lists = r.lists_of(row)
        self.assertIsNot(lists[0], lists[1])
        lists[0].append(1)
        lists.append([])
        self.assertEqual(r.lists_of(row), [[("leave",)], [("leave",)]])

    def test_with_lists(self):
        one, other = ("do", "b", ["x"], ""), ("strike", "c", "y")
        told = ("do", "b", ("x",), "")
        self.assertEqual(r.with_lists(("if", "a", [], []), [[one], (other,)]), ("if", "a", (told,), (other,)))
        self.assertEqual(r.with_lists(("loop", "a", [other]), [[one, other]]), ("loop", "a", (told, other)))
        self.assertEqual(r.with_lists(("guard", [one], [one]), [[], [other]]), ("guard", (), (other,)))
        self.assertEqual(r.with_lists(("last", [one], [one]), ((other,), [])), ("last", (other,), ()))
        for row in RIGHT:
            self.assertEqual(r.with_lists(row, r.lists_of(row)), frozen_by_hand(row))
        self.assertEqual(r.with_lists(("do", "a", ["x"], "y"), []), ("do", "a", ("x",), "y"))
        self.assertEqual(r.with_lists(("answer", "a", ["x"]), ()), ("answer", "a", ("x",)))

    def test_reads(self):
        self.assertEqual(r.reads(("do", "a", ["y", "x", "y"], "z")), ["y", "x", "y"])
        self.assertEqual(r.reads(("yield", "a", ("x",), "")), ["x"])
        self.assertEqual(r.reads(("answer", "a", ("y", "x"))), ["y", "x"])
        self.assertEqual(r.reads(("strike", "a", "x")), ["x"])
        inner = [("do", "b", ["x"], "x")]
        for row in [("catch", "a", "x", "look"), ("catch", "a", "x", "put"), ("if", "a", inner, inner),
                    ("loop", "a", inner), ("guard", inner, inner), ("last", inner, inner), ("leave",), ("again",),
                    ("do", "a", [], "x")]:
            self.assertEqual(r.reads(row), [])

    def test_sets(self):
        self.assertEqual(r.sets(("do", "a", ["y"], "x")), "x")
        self.assertEqual(r.sets(("yield", "a", [], "x")), "x")
        inner = [("do", "b", ["x"], "x")]
        for row in [("do", "a", ["y"], ""), ("yield", "a", ["y"], ""), ("strike", "a", "x"), ("catch", "a", "x", "put"),
                    ("if", "a", inner, inner), ("loop", "a", inner), ("guard", inner, inner), ("last", inner, inner),
                    ("leave",), ("again",), ("answer", "a", ["x"])]:
            self.assertIsNone(r.sets(row))

    def test_names_in(self):
        self.assertEqual(r.names_in(SAVE), ["f", "n", "t"])
        self.assertEqual(r.names_in([]), [])
        self.assertEqual(r.names_in([("do", "a", ["z"], "y"), ("yield", "b", ["x"], ""), ("strike", "c", "w")]),
                         ["w", "x", "y", "z"])
        self.assertEqual(r.names_in([("catch", "a", "v", "put"), ("answer", "b", ("u", "u"))]), ["u", "v"])
        self.assertEqual(r.names_in([("if", "a", [("strike", "b", "z")], [("strike", "c", "y")]),
                                     ("loop", "d", [("last", [("strike", "e", "x")], [("yield", "f", [], "w")])])]),
                         ["w", "x", "y", "z"])

    def test_marks_in(self):
        self.assertEqual(r.marks_in(SAVE), ["open", "write", "size", "log", "close"])
        self.assertEqual(r.marks_in([]), [])
        inner, other = ("strike", "z", "x"), ("catch", "y", "x", "look")
        self.assertEqual(r.marks_in([("if", "m", [inner], [other]), ("loop", "a", [("answer", "b", [])])]),
                         ["m", "z", "y", "a", "b"])
        self.assertEqual(r.marks_in([("last", [("guard", [inner], [other])], [("yield", "a", [], "")]), ("leave",)]),
                         ["z", "y", "a"])
        self.assertEqual(r.marks_in([inner, inner, ("again",)]), ["z", "z"])

    def test_renamed(self):
        rows = [("do", "x", ["x", "y"], "x"), ("yield", "y", ("z",), ""), ("strike", "z", "y"),
                ("catch", "look", "look", "look"), ("if", "x", [("answer", "y", ["x"])], [("leave",)]),
                ("loop", "y", [("again",)]), ("guard", [("strike", "x", "x")], []),
                ("last", [], [("strike", "y", "z")])]
        told = r.renamed(rows, {"x": "y", "y": "x", "look": "put"}, {"x": "mx", "y": "my", "look": "n"})
        self.assertEqual(told, [
            ("do", "mx", ("y", "x"), "y"), ("yield", "my", ("z",), ""), ("strike", "z", "x"),
            ("catch", "n", "put", "look"), ("if", "mx", (("answer", "my", ("y",)),), (("leave",),)),
            ("loop", "my", (("again",),)), ("guard", (("strike", "mx", "y"),), ()),
            ("last", (), (("strike", "my", "z"),))])
        self.assertEqual(r.renamed(rows, {}, {}), [frozen_by_hand(row) for row in rows])
        self.assertEqual(r.renamed([], {"x": "y"}, {}), [])
        self.assertEqual(r.renamed([("do", "a", ["x"], "")], {"a": "b"}, {"x": "y"}), [("do", "a", ("x",), "")])

    def test_count(self):
        self.assertEqual([r.count([]), r.count(SAVE), r.count(plain_rows(101))], [0, 6, 101])
        self.assertEqual(r.count([("if", "a", SAVE, SAVE), ("loop", "b", SAVE)]), 20)

    def test_depth(self):
        self.assertEqual([r.depth([]), r.depth(SAVE), r.depth(plain_rows(9))], [0, 2, 1])
        self.assertEqual([r.depth([("if", "a", [], [])]), r.depth([("if", "a", (), SAVE)])], [1, 3])
        self.assertEqual(r.depth([("last", SAVE, [("loop", "a", [("loop", "b", SAVE)])]), ("leave",)]), 5)
        for many in range(1, 14):
            self.assertEqual(r.depth(rows_deep(many)), many)


class UnchangedTest(unittest.TestCase):
    def test_arguments_stay(self):
        rows = copy.deepcopy(SAVE)
        names, marks, lists = {"f": "g"}, {"open": "shut"}, [[("leave",)], []]
        r.is_row(rows[1]), r.are_rows(rows), r.frozen(rows[1]), r.lists_of(rows[1]), r.with_lists(rows[1], lists)
        r.reads(rows[1]), r.sets(rows[1]), r.names_in(rows), r.marks_in(rows), r.renamed(rows, names, marks)
        r.count(rows), r.depth(rows)
        self.assertEqual(repr([rows, names, marks, lists]), repr(
            [SAVE, {"f": "g"}, {"open": "shut"}, [[("leave",)], []]]))

    def test_a_list_changed_behind_a_call_changes_nothing(self):
        args, inner = ["x"], [("do", "b", [], "")]
        told = [r.frozen(("guard", inner, [("do", "a", args, "")])), r.lists_of(("guard", inner, [])),
                r.with_lists(("loop", "a", []), [inner]), r.reads(("do", "a", args, "")),
                r.renamed([("loop", "a", inner)], {}, {})]
        kept = copy.deepcopy(told)
        args.append("y")
        inner.append(("leave",))
        self.assertEqual(told, kept)

    def test_told_lists_are_new(self):
        row = ("do", "a", ("x", "y"), "")
        told = r.reads(row)
        told.clear()
        self.assertEqual(r.reads(row), ["x", "y"])
        for ask in [r.names_in, r.marks_in, lambda rows: r.renamed(rows, {}, {})]:
            told = ask(SAVE)
            kept = list(told)
            told.clear()
            self.assertEqual(ask(SAVE), kept)

    def test_rows_that_are_made_up(self):
        for body in made_bodies(100):
            rows = body.rows()
            self.assertIs(r.are_rows(rows), True)
            self.assertEqual(r.renamed(rows, {}, {}), rows)
            inner = [part for row in rows for part in r.lists_of(row)]
            self.assertEqual(r.count(rows), len(rows) + sum([r.count(part) for part in inner]))
