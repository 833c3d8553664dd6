"""[30]: spots, what is done between two waits, and standings."""

import copy
import itertools
import unittest

from cutoutpieces.bodies import Body
from cutoutpieces.errors import NoSpot, TooMany
from cutoutpieces.pieces import stands_in, stretches
from cutoutpieces.spots import begun, behind, is_spot, standings, words_at
from reference import Reference, all_standings
from samples import Dice, made_bodies, mark, odd_values

WAYS = ["again", "answer", "end", "fail", "leave", "shut"]


def do(name, gets=""):
    """A deed without args."""
    return ("do", name, [], gets)


def rich():
    """A body with rows of all kinds, in endings within endings, in a loop and in none."""
    return Body(["x"], [
        ("last", [("yield", "a", [], "x")], [
            do("b"), ("last", [], [("if", "c", [do("d")], [("catch", "e", "x", "put")])]),
            ("guard", [("strike", "f", "x")], [do("g")])]),
        ("loop", "h", [
            ("last", [("leave",)], [do("i"), ("last", [("again",)], [do("j"), ("leave",)])]),
            ("guard", [("last", [], [do("k")])], [("answer", "l", ["x"])])]),
        ("last", [("loop", "m", [("last", [], [do("n")])])], [("loop", "o", [("last", [], [do("p")])])]),
    ])


def is_spot_by_the_words(body, address, pending):
    """Whether the address and the ways make a spot, read off the rows from the top."""
    rows, looped, lasts = body.rows(), False, []
    if address == ():
        return len(pending) == 1 and pending[0] in ("answer", "end", "fail", "shut")
    for at in range(0, len(address), 2):
        row = rows[address[at]]
        if at + 1 < len(address):
            lists = [part for part in row[1:] if isinstance(part, tuple)]
            if row[0] == "last" and address[at + 1] == 1:
                lasts.append(looped)
            looped = looped or row[0] == "loop"
            rows = lists[address[at + 1]]
    if row[0] not in ("do", "yield", "strike", "if", "loop") or len(lasts) != len(pending):
        return False
    return all(inside or way not in ("leave", "again") for inside, way in zip(lasts, pending))


class IsSpotTest(unittest.TestCase):
    def test_all_addresses_and_ways(self):
        for body in [rich(), Body([], []), *made_bodies(15)]:
            for address in [(), *body.addresses()]:
                for many in range(4):
                    for pending in itertools.product(WAYS, repeat=many):
                        told = is_spot(body, (address, pending))
                        self.assertIs(told, is_spot_by_the_words(body, address, pending))

    def test_by_hand(self):
        body = rich()
        for spot in [((0, 0, 0), ()), ((0, 1, 0), ("end",)), ((0, 1, 0), ("shut",)), ((0, 1, 1, 1, 0), ("fail", "answer")),
                     ((0, 1, 2, 0, 0), ("answer",)), ((1,), ()), ((1, 0, 0, 1, 0), ("leave",)),
                     ((1, 0, 0, 1, 1, 1, 0), ("again", "leave")), ((2, 1, 0), ("end",)), ((2, 0, 0, 0, 0, 1, 0), ("again",)),
                     ((2, 1, 0, 0, 0, 1, 0), ("end", "leave")), ((), ("end",)), ((), ("shut",))]:
            self.assertIs(is_spot(body, spot), True)
        for spot in [((0, 0, 0), ("end",)), ((0, 1, 0), ()), ((0, 1, 0), ("leave",)), ((0, 1, 0), ("again",)),
                     ((0, 1, 1, 1, 0), ("end",)), ((0, 1, 1, 1, 0), ("end", "leave")), ((0,), ()), ((0, 1, 1), ("end",)),
                     ((0, 1, 1, 1, 0, 1, 0), ("end", "end")), ((1, 0, 1, 1, 0), ()), ((1, 0, 0, 0, 0), ()),
                     ((2, 1, 0), ("leave",)), ((2, 1, 0, 0, 0, 1, 0), ("leave", "end")), ((), ("leave",)), ((), ("again",)),
                     ((), ()), ((), ("end", "end")), ((9,), ()), ((0, 1, 0), ("told",)), ((0, 1, 0), ("ends",))]:
            self.assertIs(is_spot(body, spot), False)

    def test_other_forms(self):
        body = rich()
        for thing in [[(1,), ()], ((1,), []), ([1], ()), ((1,),), ((1,), (), ()), ((True,), ()), ((0, False, 0), ()),
                      ((0, 1, 0), ["end"]), ((0, 1, 0), "end"), ((0, True, 0), ("end",)), ((0, 1, 0), (["end"],)),
                      ((0, 1, 0), (None,)), ((0, 1, 0), (b"end",)), ([], ("end",)), ((), ["end"]), ((), "end"),
                      ((), (("end",),)), ("", ("end",)), (None, ("end",)), ((1,), None), ((1,), {})]:
            self.assertIs(is_spot(body, thing), False)

    def test_any_value(self):
        body = Body([], [do("a")])
        for thing in odd_values():
            right = repr(thing) in ["((0,), ())", "((), ('end',))"]
            self.assertIs(is_spot(body, thing), right)


class WordsTest(unittest.TestCase):
    def test_words_at(self):
        body = rich()
        told = {
            ((0, 0, 0), ()): ["fail", "shut", "told"], ((0, 1, 0), ("end",)): ["fail", "told"],
            ((0, 1, 1, 1, 0), ("end", "fail")): ["fail", "no", "yes"], ((0, 1, 2, 0, 0), ("shut",)): ["done", "fail"],
            ((1,), ()): ["fail", "no", "yes"], ((), ("end",)): [], ((), ("answer",)): [], ((), ("fail",)): [],
            ((), ("shut",)): []}
        for spot, words in told.items():
            self.assertEqual(words_at(body, spot), words)
            words_at(body, spot).append("more")
            self.assertEqual(words_at(body, spot), words)

    def test_no_spot(self):
        body = Body([], [do("a"), ("guard", [], [])])
        others = [((0,), ("end",)), ((1,), ()), ((2,), ()), ((), ("leave",)), ((True,), ()), [(0,), ()], None]
        for thing in [*others, *odd_values()]:
            if repr(thing) in ["((0,), ())", "((), ('end',))"]:
                continue
            for call in [lambda: words_at(body, thing), lambda: behind(body, thing, "told", []),
                         lambda: behind(body, thing, "told", [], stretches=[((0,), 1)])]:
                with self.assertRaises(NoSpot) as held:
                    call()
                self.assertIs(held.exception.at, thing)


class GoingOnTest(unittest.TestCase):
    """Each test is told as rows, and what is done from a spot behind a word."""

    def need(self, rows, at, word, names, acts, spot, given=()):
        body = Body(given, rows)
        self.assertEqual(behind(body, at, word, names), (acts, spot))

    def test_the_example(self):
        body = Body(["x"], [("catch", "c", "x", "look"), (
            "guard", [("do", "a", ["x"], "x"), ("do", "b", ["y"], "")], [("do", "e", ["x"], "")])])
        self.assertEqual([begun(body), behind(body, ((1, 0, 0), ()), "told", ["x"])], [
            ([("catch", "c", "x", "look")], ((1, 0, 0), ())),
            ([("set", "x"), ("lack", "b", "y")], ((1, 1, 0), ()))])
        self.assertEqual(len(standings(body)), 4)

    def test_begun(self):
        self.assertEqual(begun(Body([], [])), ([], ((), ("end",))))
        self.assertEqual(begun(Body([], [do("a")])), ([], ((0,), ())))
        self.assertEqual(begun(Body(["x"], [("answer", "a", ["x", "x"])])),
                         ([("answer", "a", ("x", "x"))], ((), ("answer",))))
        self.assertEqual(begun(Body(["x"], [("answer", "a", ["x", "y"])])), ([("lack", "a", "y")], ((), ("fail",))))
        self.assertEqual(begun(Body([], [("catch", "a", "x", "put"), ("strike", "b", "x")])),
                         ([("catch", "a", "x", "put"), ("lack", "b", "x")], ((), ("fail",))))
        self.assertEqual(begun(Body(["x"], [("strike", "b", "x")])), ([], ((0,), ())))
        self.assertEqual(begun(Body([], [("yield", "a", ["z", "y", "z"], "z")])),
                         ([("lack", "a", "z")], ((), ("fail",))))
        self.assertEqual(begun(Body([], [("guard", [("last", [], [])], []), ("loop", "b", [])])), ([], ((1,), ())))
        self.assertEqual(begun(Body([], [("last", [("guard", [("do", "a", ["x"], "")], [])], [("if", "b", [], [])])])),
                         ([("lack", "a", "x")], ((0, 1, 0), ("end",))))

    def test_a_deed(self):
        for kind in ["do", "yield"]:
            rows = [(kind, "a", [], "x"), ("do", "b", ["x"], "")]
            self.need(rows, ((0,), ()), "told", [], [("set", "x")], ((1,), ()))
            self.need(rows, ((0,), ()), "fail", ["x"], [], ((), ("fail",)))
            self.need([(kind, "a", [], ""), ("catch", "b", "x", "put")], ((0,), ()), "told", [],
                      [("catch", "b", "x", "put")], ((), ("end",)))
            self.need([("loop", "l", [(kind, "a", ["x"], "x")])], ((0, 0, 0), ()), "told", ["x"], [("set", "x")], ((0,), ()))
        self.need([("yield", "a", [], "x")], ((0,), ()), "shut", [], [], ((), ("shut",)))

    def test_a_strike(self):
        rows = [("strike", "a", "x"), ("do", "b", ["y", "x"], "")]
        self.need(rows, ((0,), ()), "done", ["x", "y"], [("strike", "x"), ("lack", "b", "x")], ((), ("fail",)))
        self.need(rows, ((0,), ()), "fail", ["x", "y"], [], ((), ("fail",)))
        rows = [("guard", [("strike", "a", "x")], [("do", "b", ["x"], "")])]
        self.need(rows, ((0, 0, 0), ()), "fail", ["x"], [], ((0, 1, 0), ()))
        self.need(rows, ((0, 0, 0), ()), "done", ["x"], [("strike", "x")], ((), ("end",)))

    def test_names_that_are_not_in_the_body(self):
        rows = [("strike", "a", "x"), ("do", "b", ["y"], "")]
        self.need(rows, ((0,), ()), "done", ["z", "x", "y", "abc"], [("strike", "x")], ((1,), ()))
        self.need(rows, ((0,), ()), "done", ["z", "x"], [("strike", "x"), ("lack", "b", "y")], ((), ("fail",)))

    def test_an_if(self):
        rows = [("if", "a", [do("b")], [do("c")]), do("d")]
        self.need(rows, ((0,), ()), "yes", [], [], ((0, 0, 0), ()))
        self.need(rows, ((0,), ()), "no", [], [], ((0, 1, 0), ()))
        self.need(rows, ((0,), ()), "fail", [], [], ((), ("fail",)))
        for at in [(0, 0, 0), (0, 1, 0)]:
            self.need(rows, (at, ()), "told", [], [], ((1,), ()))
            self.need(rows, (at, ()), "fail", [], [], ((), ("fail",)))
        rows = [("if", "a", [], [("answer", "c", [])]), do("d")]
        self.need(rows, ((0,), ()), "yes", [], [], ((1,), ()))
        self.need(rows, ((0,), ()), "no", [], [("answer", "c", ())], ((), ("answer",)))

    def test_a_loop(self):
        rows = [("loop", "a", [do("b")]), do("d")]
        self.need(rows, ((0,), ()), "yes", [], [], ((0, 0, 0), ()))
        self.need(rows, ((0,), ()), "no", [], [], ((1,), ()))
        self.need(rows, ((0,), ()), "fail", [], [], ((), ("fail",)))
        self.need(rows, ((0, 0, 0), ()), "told", [], [], ((0,), ()))
        self.need(rows, ((0, 0, 0), ()), "fail", [], [], ((), ("fail",)))
        self.need([("loop", "a", []), do("d")], ((0,), ()), "yes", [], [], ((0,), ()))
        self.need([("loop", "a", [("leave",)]), do("d")], ((0,), ()), "yes", [], [], ((1,), ()))
        self.need([("loop", "a", [("again",)]), do("d")], ((0,), ()), "yes", [], [], ((0,), ()))
        self.need([("loop", "a", [("answer", "b", [])]), do("d")], ((0,), ()), "yes", [], [("answer", "b", ())],
                  ((), ("answer",)))
        self.need([("loop", "a", [("yield", "b", [], "")])], ((0, 0, 0), ()), "shut", [], [], ((), ("shut",)))

    def test_the_nearest_loop(self):
        rows = [("loop", "a", [("loop", "b", [do("c"), ("if", "d", [("leave",)], [("again",)])]), do("e")])]
        self.need(rows, ((0, 0, 0, 0, 1), ()), "yes", [], [], ((0, 0, 1), ()))
        self.need(rows, ((0, 0, 0, 0, 1), ()), "no", [], [], ((0, 0, 0), ()))
        rows = [("loop", "a", [("guard", [("last", [("leave",)], [])], []), do("e")]), do("f")]
        self.need(rows, ((0,), ()), "yes", [], [], ((1,), ()))

    def test_a_guard(self):
        rows = [("guard", [("yield", "a", [], "")], [do("b")]), do("c")]
        self.need(rows, ((0, 0, 0), ()), "told", [], [], ((1,), ()))
        self.need(rows, ((0, 0, 0), ()), "fail", [], [], ((0, 1, 0), ()))
        self.need(rows, ((0, 0, 0), ()), "shut", [], [], ((), ("shut",)))
        self.need(rows, ((0, 1, 0), ()), "told", [], [], ((1,), ()))
        self.need(rows, ((0, 1, 0), ()), "fail", [], [], ((), ("fail",)))
        rows = [("guard", [("guard", [do("a")], [("do", "b", ["x"], "")])], [do("c")])]
        self.need(rows, ((0, 0, 0, 0, 0), ()), "fail", [], [("lack", "b", "x")], ((0, 1, 0), ()))
        self.need([("guard", [do("a")], [])], ((0, 0, 0), ()), "fail", [], [], ((), ("end",)))
        for way in ["leave", "again"]:
            rows = [("loop", "l", [("guard", [do("a"), (way,)], [do("b")]), do("c")]), do("d")]
            self.need(rows, ((0, 0, 0, 0, 0), ()), "told", [], [], ((1,), ()) if way == "leave" else ((0,), ()))
        self.need([("guard", [do("a"), ("answer", "w", [])], [do("b")])], ((0, 0, 0), ()), "told", [],
                  [("answer", "w", ())], ((), ("answer",)))

    def test_a_last(self):
        rows = [("last", [("yield", "a", [], "")], [("yield", "b", [], "")]), do("c")]
        for word, way in [("told", "end"), ("fail", "fail"), ("shut", "shut")]:
            self.need(rows, ((0, 0, 0), ()), word, [], [], ((0, 1, 0), (way,)))
        for way in ["answer", "fail", "shut", "end"]:
            on = ((1,), ()) if way == "end" else ((), (way,))
            self.need(rows, ((0, 1, 0), (way,)), "told", [], [], on)
            self.need(rows, ((0, 1, 0), (way,)), "fail", [], [], ((), ("fail",)))
            self.need(rows, ((0, 1, 0), (way,)), "shut", [], [], ((), ("shut",)))

    def test_jumps_out_of_a_last(self):
        rows = [("loop", "l", [("last", [do("a"), ("leave",)], [do("b")]), do("c")]), do("d")]
        self.need(rows, ((0, 0, 0, 0, 0), ()), "told", [], [], ((0, 0, 0, 1, 0), ("leave",)))
        self.need(rows, ((0, 0, 0, 1, 0), ("leave",)), "told", [], [], ((1,), ()))
        self.need(rows, ((0, 0, 0, 1, 0), ("again",)), "told", [], [], ((0,), ()))
        self.need(rows, ((0, 0, 0, 1, 0), ("end",)), "told", [], [], ((0, 0, 1), ()))
        self.need(rows, ((0, 0, 0, 1, 0), ("answer",)), "told", [], [], ((), ("answer",)))

    def test_jumps_out_of_an_ending(self):
        for way, on in [("leave", ((1,), ())), ("again", ((0,), ()))]:
            rows = [("loop", "l", [("last", [("yield", "a", [], "")], [do("b"), (way,)]), do("c")]), do("d")]
            for left in WAYS:
                self.need(rows, ((0, 0, 0, 1, 0), (left,)), "told", [], [], on)
        rows = [("loop", "l", [("last", [], [do("b"), ("answer", "w", ["x"])])]), do("d")]
        for left in WAYS:
            self.need(rows, ((0, 0, 0, 1, 0), (left,)), "told", ["x"], [("answer", "w", ("x",))], ((), ("answer",)))
            self.need(rows, ((0, 0, 0, 1, 0), (left,)), "told", [], [("lack", "w", "x")], ((), ("fail",)))

    def test_endings_within_endings(self):
        rows = [("last", [do("a")], [("last", [("yield", "b", [], "")], [do("c")]), do("d")]), do("e")]
        self.need(rows, ((0, 1, 0, 0, 0), ("fail",)), "shut", [], [], ((0, 1, 0, 1, 0), ("fail", "shut")))
        self.need(rows, ((0, 1, 0, 1, 0), ("fail", "end")), "told", [], [], ((0, 1, 1), ("fail",)))
        self.need(rows, ((0, 1, 0, 1, 0), ("end", "fail")), "told", [], [], ((), ("fail",)))
        self.need(rows, ((0, 1, 0, 1, 0), ("end", "fail")), "fail", [], [], ((), ("fail",)))
        self.need(rows, ((0, 1, 1), ("shut",)), "told", [], [], ((), ("shut",)))
        self.need(rows, ((0, 1, 1), ("end",)), "told", [], [], ((1,), ()))
        rows = [("last", [("last", [do("a")], [do("b")])], [do("c")])]
        self.need(rows, ((0, 0, 0, 1, 0), ("fail",)), "told", [], [], ((0, 1, 0), ("fail",)))

    def test_empty_lists(self):
        rows = [do("z"), ("guard", [], [do("a")]), ("last", [], []), ("if", "b", [], [])]
        self.need(rows, ((0,), ()), "told", [], [], ((3,), ()))
        self.need(rows, ((3,), ()), "no", [], [], ((), ("end",)))

    def test_several_acts(self):
        rows = [("do", "a", [], "y"), ("catch", "b", "y", "look"), ("catch", "c", "x", "put"),
                ("guard", [("do", "d", ["y", "x"], "")], [("catch", "e", "x", "look"), ("answer", "f", ["y"])])]
        self.need(rows, ((0,), ()), "told", [], [
            ("set", "y"), ("catch", "b", "y", "look"), ("catch", "c", "x", "put"), ("lack", "d", "x"),
            ("catch", "e", "x", "look"), ("answer", "f", ("y",))], ((), ("answer",)))


class StretchesTest(unittest.TestCase):
    def need(self, rows, held, begins, *steps, given=()):
        """steps are tuples (spot, word, names, acts); begins are the first acts."""
        body = Body(given, rows)
        self.assertEqual(begun(body, stretches=held)[0], begins)
        for spot, word, names, acts in steps:
            self.assertEqual(behind(body, spot, word, names, stretches=held)[0], acts)
            bare = [act for act in acts if act[0] not in ("in", "out")]
            self.assertEqual(behind(body, spot, word, names)[0], bare)
            self.assertEqual(behind(body, spot, word, names, stretches=())[0], bare)

    def test_rows_one_behind_another(self):
        rows = [do("a", "x"), do("b", "y"), do("c")]
        self.need(rows, [((0,), 2)], [("in", 0)], (((0,), ()), "told", [], [("set", "x")]),
                  (((0,), ()), "fail", [], [("out", 0, "fail")]), (((1,), ()), "told", [], [("set", "y"), ("out", 0, "end")]),
                  (((2,), ()), "told", [], []))
        self.need(rows, [((2,), 1), ((1,), 1)], [], (((0,), ()), "told", [], [("set", "x"), ("in", 1)]),
                  (((1,), ()), "told", [], [("set", "y"), ("out", 1, "end"), ("in", 0)]),
                  (((1,), ()), "fail", [], [("out", 1, "fail")]), (((2,), ()), "told", [], [("out", 0, "end")]))
        self.need(rows, (((0,), 3),), [("in", 0)], (((2,), ()), "fail", [], [("out", 0, "fail")]),
                  (((2,), ()), "told", [], [("out", 0, "end")]))

    def test_rows_that_do_not_wait(self):
        rows = [("catch", "a", "x", "put"), ("catch", "b", "x", "look"), ("strike", "c", "x"), do("d"), ("answer", "e", [])]
        self.need(rows, [((0,), 1), ((1,), 1), ((2,), 1), ((3,), 2)], [
            ("in", 0), ("catch", "a", "x", "put"), ("out", 0, "end"), ("in", 1), ("catch", "b", "x", "look"), ("out", 1, "end"),
            ("in", 2), ("lack", "c", "x"), ("out", 2, "fail")])
        self.need(rows, [((4,), 1)], [("catch", "a", "x", "put"), ("catch", "b", "x", "look")],
                  (((3,), ()), "told", [], [("in", 0), ("answer", "e", ()), ("out", 0, "answer")]), given=["x"])
        self.need(rows, [((0,), 2)], [("in", 0), ("catch", "a", "x", "put"), ("catch", "b", "x", "look"), ("out", 0, "end")],
                  given=["x"])
        self.need([("guard", [], []), ("last", [], [])], [((1,), 1), ((0,), 1)],
                  [("in", 1), ("out", 1, "end"), ("in", 0), ("out", 0, "end")])

    def test_a_loop_that_asks_again(self):
        rows = [("loop", "a", [do("b"), do("c")]), do("d")]
        self.need(rows, [((0,), 1)], [("in", 0)], (((0,), ()), "yes", [], []), (((0, 0, 1), ()), "told", [], []),
                  (((0,), ()), "no", [], [("out", 0, "end")]), (((0,), ()), "fail", [], [("out", 0, "fail")]),
                  (((0, 0, 0), ()), "fail", [], [("out", 0, "fail")]))
        self.need(rows, [((0, 0, 0), 1), ((0, 0, 1), 1)], [], (((0,), ()), "yes", [], [("in", 0)]),
                  (((0, 0, 0), ()), "told", [], [("out", 0, "end"), ("in", 1)]),
                  (((0, 0, 1), ()), "told", [], [("out", 1, "end")]), (((0, 0, 0), ()), "fail", [], [("out", 0, "fail")]))
        self.need([("loop", "a", [])], [((0,), 1)], [("in", 0)], (((0,), ()), "yes", [], []))

    def test_jumps(self):
        for way in ["leave", "again"]:
            rows = [("loop", "a", [do("b"), ("if", "c", [(way,)], []), do("d")]), do("e")]
            self.need(rows, [((0, 0, 1), 2), ((1,), 1)], [], (((0, 0, 0), ()), "told", [], [("in", 0)]),
                      (((0, 0, 1), ()), "yes", [], [("out", 0, way)] + ([("in", 1)] if way == "leave" else [])),
                      (((0, 0, 1), ()), "no", [], []), (((0, 0, 2), ()), "told", [], [("out", 0, "end")]))
            self.need(rows, [((0, 0, 1, 0, 0), 1)], [], (((0, 0, 1), ()), "yes", [], [("in", 0), ("out", 0, way)]))
            self.need(rows, [((0,), 1)], [("in", 0)],
                      (((0, 0, 1), ()), "yes", [], [] if way == "again" else [("out", 0, "end")]))

    def test_guards_and_lasts(self):
        rows = [("guard", [do("a"), do("b")], [do("c")]), ("last", [do("d"), do("e")], [do("f")])]
        self.need(rows, [((0,), 1), ((1,), 1)], [("in", 0)], (((0, 0, 0), ()), "fail", [], []),
                  (((0, 1, 0), ()), "told", [], [("out", 0, "end"), ("in", 1)]), (((1, 0, 0), ()), "fail", [], []),
                  (((1, 1, 0), ("fail",)), "told", [], [("out", 1, "fail")]),
                  (((1, 1, 0), ("end",)), "fail", [], [("out", 1, "fail")]),
                  (((1, 1, 0), ("end",)), "told", [], [("out", 1, "end")]))
        self.need(rows, [((0, 0, 1), 1), ((0, 1, 0), 1), ((1, 0, 0), 1), ((1, 1, 0), 1)], [],
                  (((0, 0, 0), ()), "told", [], [("in", 0)]), (((0, 0, 0), ()), "fail", [], [("in", 1)]),
                  (((0, 0, 1), ()), "fail", [], [("out", 0, "fail"), ("in", 1)]),
                  (((0, 1, 0), ()), "told", [], [("out", 1, "end"), ("in", 2)]),
                  (((1, 0, 0), ()), "fail", [], [("out", 2, "fail"), ("in", 3)]),
                  (((1, 1, 0), ("fail",)), "told", [], [("out", 3, "end")]),
                  (((1, 1, 0), ("end",)), "fail", [], [("out", 3, "fail")]))

    def test_a_lack_in_a_stretch(self):
        rows = [do("a", "x"), ("guard", [("do", "b", ["x", "y"], "")], [do("c")])]
        self.need(rows, [((1, 0, 0), 1), ((1, 1, 0), 1)], [],
                  (((0,), ()), "told", [], [("set", "x"), ("in", 0), ("lack", "b", "y"), ("out", 0, "fail"), ("in", 1)]))

    def test_the_loop_and_the_stretch_behind_it(self):
        rows = [("loop", "a", [do("b")]), ("loop", "c", [do("d")])]
        self.need(rows, [((0,), 1), ((1,), 1)], [("in", 0)], (((0,), ()), "no", [], [("out", 0, "end"), ("in", 1)]),
                  (((1,), ()), "no", [], [("out", 1, "end")]), (((1, 0, 0), ()), "told", [], []))

    def test_against_plain_recursion(self):
        for seed, body in enumerate(made_bodies(250)):
            for many in range(4):
                dice = Dice(seed)
                held = chosen(body, dice, many)
                run = Reference(body, held)
                self.assertEqual(begun(body, stretches=held), (run.acts, run.spot))
                for _ in range(30):
                    words = [word for word in run.takes() if isinstance(word, str)]
                    if not words:
                        break
                    word = dice.one_of([*words, words[-1], words[-1]])
                    told = behind(body, run.spot, word, list(run.values), stretches=held)
                    run.go(word)
                    self.assertEqual(told, (run.acts, run.spot))


def chosen(body, dice, many):
    """At most so many stretches of a body, no two of which have a row in common."""
    held, left = [], stretches(body)
    for _ in range(many):
        if left:
            new = dice.one_of(left)
            held.append(new)
            rows = [address for address in body.addresses() if stands_in(address, new)]
            left = [other for other in left if not any(stands_in(address, other) for address in rows)]
    return held


class StandingsTest(unittest.TestCase):
    def test_by_hand(self):
        self.assertEqual(standings(Body([], [])), [(((), ("end",)), (), ())])
        self.assertEqual(standings(Body(["x"], [do("a", "y")])), [
            (((), ("end",)), ("x", "y"), ()), (((), ("fail",)), ("x",), ()), (((0,), ()), ("x",), ())])
        self.assertEqual(standings(Body([], [("catch", "a", "x", "put"), ("catch", "b", "y", "look"), do("c")])), [
            (((), ("end",)), (), ("x",)), (((), ("end",)), ("x",), ("x",)), (((), ("fail",)), (), ("x",)),
            (((), ("fail",)), ("x",), ("x",)), (((2,), ()), (), ("x",)), (((2,), ()), ("x",), ("x",))])

    def test_a_put_sets_while_the_run_has_ended(self):
        self.assertEqual(standings(Body([], [("catch", "b", "y", "put"), ("catch", "a", "x", "put")])), [
            (((), ("end",)), names, ("x", "y")) for names in [(), ("x",), ("x", "y"), ("y",)]])

    def test_a_strike(self):
        self.assertEqual(standings(Body(["x"], [("strike", "a", "x")])), [
            (((), ("end",)), (), ()), (((), ("fail",)), ("x",), ()), (((0,), ()), ("x",), ())])

    def test_a_loop_that_hands_out(self):
        body = Body([], [("loop", "a", [("catch", "b", "x", "put")])])
        self.assertEqual(standings(body), [
            (((), (way,)), names, puts) for way in ["end", "fail"]
            for names, puts in [((), ()), ((), ("x",)), (("x",), ("x",))]] + [
            (((0,), ()), (), ()), (((0,), ()), (), ("x",)), (((0,), ()), ("x",), ("x",))])

    def test_against_plain_recursion(self):
        for body in made_bodies(150):
            self.assertEqual(standings(body), all_standings(body))

    def test_most(self):
        for body in [rich(), Body([], []), *made_bodies(20)]:
            told = standings(body)
            many = len(told)
            self.assertEqual(standings(body, most=many), told)
            self.assertEqual(standings(body, most=many + 1), told)
            self.assertEqual(standings(body, most=100000), told)
            for most in [many - 1, many // 2]:
                if most > 0:
                    with self.assertRaises(TooMany) as held:
                        standings(body, most=most)
                    self.assertEqual(held.exception.most, most)

    def test_most_is_20000(self):
        catches = [("catch", "c" + name, name, "put") for name in "abcdefgh"]
        deeds = [do(mark(k)) for k in range(91)]
        # Behind the first catch there are two standings for each deed, behind all of them 256.
        rows = [catches[0], *deeds[:15], *catches[1:], *deeds[15:]]
        self.assertEqual(len(standings(Body([], rows))), 20000)
        more = Body([], [do("more"), *rows])
        with self.assertRaises(TooMany) as held:
            standings(more)
        self.assertEqual(held.exception.most, 20000)
        self.assertEqual(len(standings(more, most=20002)), 20002)

    def test_most_is_passed_by_keyword(self):
        with self.assertRaises(TypeError):
            standings(Body([], []), 5)
        with self.assertRaises(TypeError):
            begun(Body([], []), [])
        with self.assertRaises(TypeError):
            behind(Body([], [do("a")]), ((0,), ()), "told", [], [])


class UnchangedTest(unittest.TestCase):
    def test_arguments_stay(self):
        body = rich()
        names, held = ["x", "q"], [((0,), 1), ((1,), 2)]
        kept = copy.deepcopy([names, held])
        begun(body, stretches=held)
        behind(body, ((0, 1, 2, 0, 0), ("end",)), "done", names, stretches=held)
        behind(body, ((0, 0, 0), ()), "told", names, stretches=held)
        standings(body)
        self.assertEqual([names, held], kept)
        self.assertEqual(body, rich())

    def test_told_lists_are_new(self):
        body = Body([], [("catch", "a", "x", "put"), do("b")])
        for ask in [lambda: begun(body)[0], lambda: behind(body, ((1,), ()), "told", [], stretches=[((0,), 2)])[0],
                    lambda: standings(body)]:
            told = ask()
            kept = list(told)
            told.append("more")
            told.reverse()
            self.assertEqual(ask(), kept)


class ExchangedTest(unittest.TestCase):
    def test_names_and_marks(self):
        names = {"x": "u", "y": "w", "z": "v"}
        for body in made_bodies(60):
            marks = {mark: "n" + mark[1:][::-1] for mark in body.marks()}
            other = body.renamed(names, marks)
            self.assertEqual(standings(other), sorted([
                (spot, tuple(sorted(names[name] for name in held)), tuple(sorted(names[name] for name in puts)))
                for spot, held, puts in standings(body)]))
            for spot, held, _ in standings(body):
                self.assertEqual(words_at(other, spot), words_at(body, spot))
                for word in words_at(body, spot):
                    acts, on = behind(body, spot, word, list(held))
                    told, at = behind(other, spot, word, [names[name] for name in held])
                    self.assertEqual(at, on)
                    self.assertEqual(told, [exchanged(act, names, marks) for act in acts])


def exchanged(act, names, marks):
    """An act with other names and marks."""
    if act[0] in ("set", "strike"):
        return (act[0], names[act[1]])
    if act[0] == "answer":
        return (act[0], marks[act[1]], tuple(names[name] for name in act[2]))
    return (act[0], marks[act[1]], names[act[2]], *act[3:])
