"""[91]: texts."""

import unittest

from cutoutpieces.bodies import Body
from cutoutpieces.cuts import Cut
from cutoutpieces.cutting import play_cut
from cutoutpieces.kinds import Kind
from cutoutpieces.notation import (
    show_body, show_cut, show_deed, show_kind, show_plan, show_row, show_signs, show_words)
from cutoutpieces.plans import Plan
from cutoutpieces.playing import play
from samples import made_bodies, made_cuts, rows_deep


class RowsTest(unittest.TestCase):
    def test_rows_without_lists(self):
        for row, text in [
            (("do", "a", [], ""), "do a - -\n"), (("do", "a", ["x"], ""), "do a x -\n"), (("do", "a", ("x", "y", "x"), "z"), "do a x,y,x z\n"),
            (("do", "abcdefgh", [], "y"), "do abcdefgh - y\n"), (("yield", "a", [], ""), "yield a - -\n"), (("yield", "a", ["b", "c"], "d"), "yield a b,c d\n"),
            (("strike", "s", "x"), "strike s x\n"), (("catch", "c", "x", "look"), "catch c x look\n"), (("catch", "c", "x", "put"), "catch c x put\n"),
            (("leave",), "leave\n"), (("again",), "again\n"), (("answer", "z", []), "answer z -\n"), (("answer", "z", ["y", "x"]), "answer z y,x\n"),
        ]:
            self.assertEqual(show_row(row), text)

    def test_rows_with_lists(self):
        a, b, c = ("do", "a", [], ""), ("do", "b", ["x"], ""), ("leave",)
        for row, text in [
            (("if", "i", [], []), "if i\nelse\nover\n"), (("if", "i", [a, b], [c]), "if i\ndo a - -\ndo b x -\nelse\nleave\nover\n"),
            (("loop", "l", []), "loop l\nover\n"), (("loop", "l", (a, c)), "loop l\ndo a - -\nleave\nover\n"),
            (("guard", [], []), "guard\nother\nover\n"), (("guard", [a], [b]), "guard\ndo a - -\nother\ndo b x -\nover\n"),
            (("last", [], []), "last\nending\nover\n"), (("last", [], [b, a]), "last\nending\ndo b x -\ndo a - -\nover\n"),
            (("if", "i", [("loop", "l", [("guard", [a], [])])], [("last", [], [c])]),
             "if i\nloop l\nguard\ndo a - -\nother\nover\nover\nelse\nlast\nending\nleave\nover\nover\n"),
        ]:
            self.assertEqual(show_row(row), text)
        self.assertEqual(show_row(rows_deep(26)[0]), "guard\n" * 25 + "do a - -\n" + "other\nover\n" * 25)

    def test_bodies(self):
        self.assertEqual(show_body(Body([], [])), "given -\n")
        self.assertEqual(show_body(Body(["y", "abc", "x"], [])), "given abc,x,y\n")
        rows = [("do", "a", ["x"], "y"), ("loop", "l", [("leave",)]), ("answer", "z", [])]
        self.assertEqual(show_body(Body(("x",), rows)), "given x\ndo a x y\nloop l\nleave\nover\nanswer z -\n")
        for body in made_bodies(60):
            self.assertEqual(show_body(body), "given " + (",".join(body.given) or "-") + "\n" + "".join(map(show_row, body.rows())))

    def test_plans(self):
        self.assertEqual(show_plan(Plan({}, {}, [])), "in - back - told -")
        self.assertEqual(show_plan(Plan({"x": "value"}, {"x": "state"}, ["fail"])), "in x:value back x:state told fail")
        plan = Plan({"y": "state", "q": "none", "x": "value"}, {"z": "value", "abc": "state"}, ["shut", "again", "leave", "shut", "fail", "answer"])
        self.assertEqual(show_plan(plan), "in x:value,y:state back abc:state,z:value told again,answer,fail,leave,shut")
        self.assertEqual(show_plan(Plan({}, {"x": "none"}, ("leave", "fail"))), "in - back - told fail,leave")

    def test_kinds(self):
        self.assertEqual(show_kind(Kind({}, [])), "words - around -")
        self.assertEqual(show_kind(Kind({"x": ["read"], "q": []}, ["loop"])), "words x:read around loop")
        kind = Kind({"y": ("unset", "look", "put", "look"), "x": ["strike", "set", "read"]}, ("loop", "last", "guard", "last"))
        self.assertEqual(show_kind(kind), "words x:read+set+strike,y:look+put+unset around guard,last,loop")
        self.assertEqual(show_kind(Kind({"x": []}, ["guard"])), "words - around guard")

    def test_cuts(self):
        body = Body(["x"], [("do", "a", ["x"], "y"), ("loop", "l", [("do", "b", [], ""), ("leave",)]), ("do", "c", [], "")])
        self.assertEqual(show_cut(Cut(body, [])), show_body(body))
        calls = [("f", ((1, 0, 0), 2), Plan({}, {}, ["leave"])), ("g", ((0,), 1), Plan({"x": "value"}, {"y": "state"}, [])), ("h", ((2,), 1), Plan({}, {}, []))]
        text = show_body(body) + "cut g 0 1 in x:value back y:state told -\ncut f 1.0.0 2 in - back - told leave\ncut h 2 1 in - back - told -\n"
        for given in [calls, calls[::-1]]:
            self.assertEqual(show_cut(Cut(body, given)), text)
        for cut in made_cuts(50):
            lines = ["cut {} {} {} {}\n".format(mark, ".".join(map(str, gap)), many, show_plan(plan)) for mark, (gap, many), plan in cut.calls()]
            self.assertEqual(show_cut(cut), show_body(cut.body) + "".join(lines))

    def test_words(self):
        self.assertEqual(show_words([]), "-")
        self.assertEqual(show_words(["told"]), "told")
        words = ["told", "done", "yes", "no", "fail", "shut", ("look", 0), ("put", 12), ("look", 10 ** 39)]
        self.assertEqual(show_words(words), "told,done,yes,no,fail,shut,look:0,put:12,look:1" + "0" * 39)
        self.assertEqual(show_words([("put", 3)]), "put:3")

    def test_signs(self):
        self.assertEqual(show_signs([]), "")
        signs = [("do", "a", ()), ("do", "b", (0, 11)), ("yield", "y", (1,)), ("yield", "y", ()), ("answer", "z", (2, 2, 3)), ("answer", "z", ()),
                 ("strike", "s", 4), ("ask", "i"), ("catch", "c", "look"), ("lack", "a", "x"), ("look", 0, None), ("look", 1, 0), ("put", 12), ("end", "shut")]
        self.assertEqual(show_signs(signs), "do a -\ndo b 0,11\nyield y 1\nyield y -\nanswer z 2,2,3\nanswer z -\nstrike s 4\nask i\ncatch c look\n"
                                            "lack a x\nlook 0 -\nlook 1 0\nput 12\nend shut\n")
        body = Body(["x"], [("catch", "c", "x", "look"), ("strike", "s", "x"), ("do", "a", ["x"], "")])
        self.assertEqual(show_signs(play(body, [("look", 0), "done", ("look", 0)])), "catch c look\nstrike s 0\nlook 0 0\nlack a x\nend fail\nlook 0 -\n")
        self.assertEqual(show_signs(play_cut(Cut(body, []), [])), "catch c look\nstrike s 0\n")

    def test_deeds(self):
        plan = Plan({"x": "state"}, {}, ["shut", "fail"])
        for deed, text in [
            (("put", (0,), ("do", "a", [], "")), "put 0\ndo a - -\n"),
            (("put", (1, 0, 12), ("if", "i", [("leave",)], ())), "put 1.0.12\nif i\nleave\nelse\nover\n"),
            (("out", (0,)), "out 0"), (("out", (10, 1, 2)), "out 10.1.2"), (("given", ()), "given -"), (("given", []), "given -"),
            (("given", ["y", "x"]), "given x,y"), (("given", ("a", "b", "c", "d")), "given a,b,c,d"), (("name", "x", "y"), "name x y"),
            (("mark", "y", "x"), "mark y x"), (("cut", "f", ((0,), 1), Plan({}, {}, [])), "cut f 0 1 in - back - told -"),
            (("cut", "g", ((1, 1, 0), 12), plan), "cut g 1.1.0 12 in x:state back - told fail,shut"), (("back", "f"), "back f"),
            (("plan", "f", plan), "plan f in x:state back - told fail,shut"),
        ]:
            self.assertEqual(show_deed(deed), text)

    def test_nothing_is_changed(self):
        names, words = ["y", "x"], ["told", ("look", 0)]
        row = ("if", "i", [("do", "a", ["x"], "")], [])
        show_deed(("given", names))
        show_words(words)
        show_row(row)
        self.assertEqual([names, words, row], [["y", "x"], ["told", ("look", 0)], ("if", "i", [("do", "a", ["x"], "")], [])])


if __name__ == "__main__":
    unittest.main()
