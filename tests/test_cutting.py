"""[51]: runs of cut bodies, and where they show something else than the body."""

import unittest

from cutoutpieces.bodies import Body
from cutoutpieces.cuts import Cut
from cutoutpieces.cutting import CutRun, play_cut, unlike
from cutoutpieces.errors import BadWord, Nothing
from cutoutpieces.playing import Run, play
from cutoutpieces.plans import Plan
from cutreference import CutReference
from samples import Dice, made_bodies, made_cut, made_cuts, odd_values

A, B, C = ("do", "a", [], "x"), ("do", "b", ["x"], ""), ("do", "c", ["y"], "")
CAUGHT = Body(["x"], [
    ("catch", "c", "x", "look"), ("guard", [("do", "a", ["x"], "x"), ("do", "b", ["y"], "")], [("do", "e", ["x"], "")])])
FIRST = Cut(CAUGHT, [("f", ((1, 0, 0), 2), Plan({"x": "value"}, {}, []))])


def plan_of(ins, backs=None, told=()):
    """A Plan."""
    return Plan(ins, backs or {}, told)


class CutRunTest(unittest.TestCase):
    def need(self, given, rows, calls, words, signs):
        """The signs of a run, all at once and word by word, and back again."""
        cut = Cut(Body(given, rows), calls)
        self.assertEqual(play_cut(cut, words), signs)
        run = CutRun(cut)
        told, before = run.signs(), []
        for word in words:
            before.append((run.signs(), run.variables(), run.frame(), run.spot))
            told += run.go(word)
            self.assertEqual(run.signs(), told)
        self.assertEqual([run.signs(), run.words(), len(run)], [signs, words, len(words)])
        for word, held in reversed(list(zip(words, before))):
            self.assertEqual(run.back(), word)
            self.assertEqual((run.signs(), run.variables(), run.frame(), run.spot), held)

    def test_the_example(self):
        self.assertEqual(play_cut(FIRST, ["told", "told"]), [
            ("catch", "c", "look"), ("do", "a", (0,)), ("lack", "b", "y"), ("do", "e", (0,)), ("end", "end")])
        other = FIRST.with_plan("f", Plan({"x": "value"}, {"x": "value"}, ["fail"]))
        self.assertEqual([unlike(FIRST, ["told"]), unlike(FIRST, ["fail"]), unlike(other, ["told"])], [3, None, None])
        run = CutRun(FIRST)
        self.assertEqual([run.go("told"), run.frame(), run.variables()],
                         [[("lack", "b", "y"), ("do", "e", (0,))], None, {"x": 0}])

    def test_without_calls_it_is_a_run(self):
        for seed, body in enumerate(made_bodies(60)):
            dice, run, other = Dice(seed), CutRun(Cut(body, [])), Run(body)
            for _ in range(15):
                self.assertEqual([run.signs(), run.variables(), run.spot, run.frame()],
                                 [other.signs(), other.variables(), other.spot, None])
                words = taken_words(body, other)
                if not words:
                    break
                word = dice.one_of(words)
                self.assertEqual(run.go(word), other.go(word))

    def test_lacks_where_a_call_begins(self):
        rows = [("guard", [("do", "a", ["z"], "")], [("do", "e", [], "x")]), B]
        calls = [("f", ((0, 0, 0), 1), plan_of({"z": "value"}))]
        self.need([], rows, calls, ["told"], [("lack", "f", "z"), ("do", "e", ()), ("do", "b", (0,))])
        self.need(["z"], rows, calls, ["told"], [("do", "a", (0,)), ("lack", "b", "x"), ("end", "fail")])
        rows = [("do", "a", ["y", "z", "w"], "")]
        calls = [("f", ((0,), 1), plan_of({"z": "value", "y": "state", "w": "value"}))]
        self.need(["z"], rows, calls, [], [("lack", "f", "w"), ("end", "fail")])
        self.need([], rows, calls, [], [("lack", "f", "w"), ("end", "fail")])
        self.need(["z", "w"], rows, calls, [], [("lack", "a", "y"), ("end", "fail")])

    def test_lacks_where_a_call_ends(self):
        rows = [("do", "k", [], "z"), ("if", "i", [A], []), ("catch", "l", "z", "look"), ("do", "m", ["z"], "")]
        calls = [("f", ((0,), 2), plan_of({"x": "state"}, {"x": "value", "z": "state"}))]
        self.need(["z"], rows, calls, ["told", "no"], [
            ("do", "k", ()), ("ask", "i"), ("lack", "f", "x"), ("end", "fail")])
        cut = Cut(Body(["z"], rows), calls)
        run = CutRun(cut)
        run.go("told")
        self.assertEqual([run.variables(), run.frame()], [{"z": 0}, {"z": 1}])
        run.go("no")
        self.assertEqual([run.variables(), run.frame(), run.spot], [{"z": 0}, None, ((), ("fail",))])
        self.need(["z"], rows, calls, ["told", "yes", "told"], [
            ("do", "k", ()), ("ask", "i"), ("do", "a", ()), ("catch", "l", "look"), ("do", "m", (1,))])
        rows = [("do", "k", ["x", "y"], ""), ("catch", "l", "x", "look")]
        self.need(["x", "y"], rows, [("f", ((0,), 1), plan_of({"x": "value", "y": "value"}, {"y": "value", "x": "value"}))],
                  ["told"], [("do", "k", (0, 1)), ("catch", "l", "look"), ("end", "end")])
        rows = [("do", "k", [], "x"), ("do", "l", [], "y"), ("strike", "m", "y"), ("strike", "n", "x")]
        self.need([], rows, [("f", ((0,), 4), plan_of({}, {"y": "value", "x": "value"}))], ["told", "told", "done", "done"], [
            ("do", "k", ()), ("do", "l", ()), ("strike", "m", 1), ("strike", "n", 0), ("lack", "f", "x"), ("end", "fail")])

    def test_the_three_handings_in(self):
        rows = [("do", "a", ["x"], "")]
        for handing, given, signs in [
                ("none", ["x"], [("lack", "a", "x"), ("end", "fail")]), ("value", ["x"], [("do", "a", (0,))]),
                ("state", ["x"], [("do", "a", (0,))]), ("none", [], [("lack", "a", "x"), ("end", "fail")]),
                ("value", [], [("lack", "f", "x"), ("end", "fail")]), ("state", [], [("lack", "a", "x"), ("end", "fail")])]:
            self.need(given, rows, [("f", ((0,), 1), plan_of({"x": handing}))], [], signs)

    def test_the_three_handings_back(self):
        rows = [("if", "i", [A], []), ("do", "b", ["x"], "")]
        for handing, word, signs in [
                ("none", "yes", [("do", "b", (0,))]), ("value", "yes", [("do", "b", (1,))]), ("state", "yes", [("do", "b", (1,))]),
                ("none", "no", [("do", "b", (0,))]), ("value", "no", [("lack", "f", "x"), ("end", "fail")]),
                ("state", "no", [("lack", "b", "x"), ("end", "fail")])]:
            words = ["yes", "told"] if word == "yes" else ["no"]
            done = [("do", "a", ())] if word == "yes" else []
            self.need(["x"], rows, [("f", ((0,), 1), plan_of({}, {"x": handing}))], words, [("ask", "i"), *done, *signs])

    def test_ways_that_are_told_and_ways_that_are_not(self):
        rows = [("guard", [("last", [("do", "a", [], "x"), ("yield", "k", [], "")], [("do", "m", ["x"], "")])], [B])]
        for told, way, value in [([], "fail", 0), (["fail"], "fail", 1), (["shut"], "fail", 0), (["fail", "shut"], "fail", 1),
                                 ([], "shut", 0), (["fail"], "shut", 0), (["shut"], "shut", 1)]:
            calls = [("f", ((0, 0, 0, 0, 0), 2), plan_of({}, {"x": "state"}, told))]
            self.need(["x"], rows, calls, ["told", way], [("do", "a", ()), ("yield", "k", ()), ("do", "m", (value,))])
        rows = [("loop", "l", [A, ("if", "i", [("leave",)], [("again",)])]), B]
        for word, words in [("yes", []), ("no", ["no"])]:
            self.need(["x"], rows, [("f", ((0, 0, 0), 2), plan_of({}, {"x": "value"}, ["again", "leave"]))],
                      ["yes", "told", word, *words],
                      [("ask", "l"), ("do", "a", ()), ("ask", "i"), *([("ask", "l")] if words else []), ("do", "b", (1,))])
        rows = [("last", [A, ("answer", "n", ["x"])], [B])]
        self.need(["x"], rows, [("f", ((0, 0, 0), 2), plan_of({}, {"x": "value"}, ["answer"]))], ["told", "told"],
                  [("do", "a", ()), ("answer", "n", (1,)), ("do", "b", (1,)), ("end", "answer")])

    def test_a_way_that_is_not_told_hands_nothing_back_and_lacks_nothing(self):
        rows = [("guard", [("do", "a", [], "x"), ("do", "k", [], "")], [("do", "m", ["x"], "")])]
        calls = [("f", ((0, 0, 0), 2), plan_of({}, {"x": "value"}))]
        self.need(["x"], rows, calls, ["fail"], [("do", "a", ()), ("do", "m", (0,))])
        self.need(["x"], rows, [(*calls[0][:2], plan_of({}, {"x": "value"}, ["fail"]))], ["fail"],
                  [("do", "a", ()), ("lack", "f", "x"), ("do", "m", (0,))])

    def test_a_call_within_a_guard_and_a_guard_within_a_call(self):
        rows = [("guard", [("do", "a", [], "x"), ("do", "b", ["y"], "")], [("do", "d", ["x"], "")]), ("do", "e", ["x"], "")]
        signs = [("do", "a", ()), ("lack", "b", "y"), ("do", "d", (1,)), ("do", "e", (1,))]
        self.need(["x"], rows, [("f", ((0,), 1), plan_of({}, {"x": "value"}))], ["told", "told"], signs)
        self.need(["x"], rows, [("f", ((0, 0, 0), 2), plan_of({}, {"x": "value"}))], ["told", "told"],
                  [*signs[:2], ("do", "d", (0,)), ("do", "e", (0,))])

    def test_endings_outside_and_inside(self):
        rows = [("last", [("do", "a", ["x"], "x")], [("do", "b", ["x"], "x"), ("do", "c", ["x"], "")]), ("do", "d", ["x"], "")]
        whole, rest, ending = ((0,), 1), ((0, 0, 0), 1), ((0, 1, 0), 1)
        state = plan_of({"x": "state"}, {"x": "state"})
        self.need(["x"], rows, [("f", whole, state)], ["told"] * 3, [("do", mark, (k,)) for mark, k in zip("abcd", [0, 1, 2, 2])])
        self.need(["x"], rows, [("f", whole, plan_of({"x": "value"}))], ["told"] * 3,
                  [("do", mark, (k,)) for mark, k in zip("abcd", [0, 1, 2, 0])])
        self.need(["x"], rows, [("f", rest, plan_of({"x": "value"}))], ["told"] * 3,
                  [("do", mark, (k,)) for mark, k in zip("abcd", [0, 0, 2, 2])])
        self.need(["x"], rows, [("f", ending, plan_of({"x": "value"}))], ["fail", "told", "told"],
                  [("do", "a", (0,)), ("do", "b", (0,)), ("do", "c", (0,)), ("end", "fail")])
        run = CutRun(Cut(Body(["x"], rows), [("f", ending, state)]))
        run.go("fail")
        self.assertEqual([run.spot, run.frame()], [((0, 1, 0), ("fail",)), {"x": 0}])

    def test_calls_in_loops_begin_anew(self):
        rows = [("loop", "l", [("do", "a", ["x"], "x"), ("catch", "c", "x", "look"), ("do", "d", [], "")])]
        calls = [("f", ((0, 0, 0), 2), plan_of({"x": "value"}))]
        self.need(["x"], rows, calls, ["yes", "told", "told", "yes", "told", ("look", 0), ("look", 1)], [
            ("ask", "l"), ("do", "a", (0,)), ("catch", "c", "look"), ("do", "d", ()), ("ask", "l"), ("do", "a", (0,)),
            ("catch", "c", "look"), ("do", "d", ()), ("look", 0, 1), ("look", 1, 3)])

    def test_functions_of_a_frame_that_is_over(self):
        rows = [("catch", "c", "x", "look"), ("catch", "d", "x", "put"), A, ("catch", "g", "x", "look"), B]
        calls = [("f", ((0,), 3), plan_of({"x": "state"}, {"x": "state"}))]
        self.need([], rows, calls, [("look", 0), ("put", 1), ("look", 0), "told", ("look", 0), ("look", 2), ("put", 1),
                                    ("look", 2), ("look", 0), "told", ("put", 1), ("look", 0)], [
            ("catch", "c", "look"), ("catch", "d", "put"), ("do", "a", ()), ("look", 0, None), ("put", 1), ("look", 0, 0),
            ("catch", "g", "look"), ("do", "b", (1,)), ("look", 0, 1), ("look", 2, 1), ("put", 1), ("look", 2, 1),
            ("look", 0, 2), ("end", "end"), ("put", 1), ("look", 0, 4)])

    def test_puts_into_a_frame_and_into_the_body(self):
        rows = [("catch", "c", "x", "put"), ("catch", "d", "x", "put"), ("do", "e", ["x"], ""), ("do", "g", ["x"], "")]
        calls = [("f", ((1,), 2), plan_of({"x": "value"}, {"x": "value"}))]
        run = CutRun(Cut(Body(["x"], rows), calls))
        self.assertEqual([run.variables(), run.frame()], [{"x": 0}, {"x": 0}])
        run.go(("put", 0))
        self.assertEqual([run.variables(), run.frame()], [{"x": 1}, {"x": 0}])
        run.go(("put", 1))
        self.assertEqual([run.variables(), run.frame()], [{"x": 1}, {"x": 2}])
        self.assertEqual(run.go("told"), [("do", "g", (2,))])
        run.go(("put", 1))
        self.assertEqual([run.variables(), run.frame()], [{"x": 2}, None])

    def test_strikes(self):
        rows = [("strike", "a", "x"), ("do", "b", [], ""), ("do", "c", ["x"], "")]
        for back, signs in [("none", [("do", "c", (0,))]), ("value", [("lack", "f", "x"), ("end", "fail")]),
                            ("state", [("lack", "c", "x"), ("end", "fail")])]:
            self.need(["x"], rows, [("f", ((0,), 2), plan_of({"x": "value"}, {"x": back}))], ["done", "told"],
                      [("strike", "a", 0), ("do", "b", ()), *signs])
        self.need(["x"], rows, [("f", ((0,), 1), plan_of({}))], [], [("lack", "a", "x"), ("end", "fail")])
        self.need(["x"], rows, [("f", ((0,), 1), plan_of({"x": "state"}))], ["fail"], [("strike", "a", 0), ("end", "fail")])

    def test_several_calls_one_behind_another(self):
        rows = [A, ("do", "c", ["x"], "y"), ("do", "d", ["y"], "x"), ("do", "e", ["x", "y"], "")]
        calls = [("h", ((2,), 1), plan_of({"y": "value"}, {"x": "value"})), ("f", ((0,), 1), plan_of({}, {"x": "value"})),
                 ("g", ((1,), 1), plan_of({"x": "value"}, {"y": "value"}))]
        self.need([], rows, calls, ["told"] * 4, [
            ("do", "a", ()), ("do", "c", (0,)), ("do", "d", (1,)), ("do", "e", (2, 1)), ("end", "end")])
        self.need([], rows, [*calls[:2], ("g", ((1,), 1), plan_of({"x": "value"}))], ["told"] * 2, [
            ("do", "a", ()), ("do", "c", (0,)), ("lack", "h", "y"), ("end", "fail")])

    def test_calls_that_wait_nowhere(self):
        rows = [("catch", "a", "x", "put"), ("catch", "b", "x", "look"), ("guard", [("answer", "c", ["x"])], []), ("do", "d", [], "")]
        calls = [("f", ((0,), 1), plan_of({"x": "value"})), ("g", ((1,), 1), plan_of({"x": "state"})),
                 ("h", ((2,), 1), plan_of({}, {}, ["answer"]))]
        self.need(["x"], rows, calls, [("put", 0), ("look", 1), "told"], [
            ("catch", "a", "put"), ("catch", "b", "look"), ("lack", "c", "x"), ("do", "d", ()), ("put", 0), ("look", 1, 0),
            ("end", "end")])

    def test_frame_and_variables_behind_each_word(self):
        rows = [("do", "a", [], "x"), ("if", "b", [("do", "c", [], "y")], []), ("strike", "d", "x"), ("do", "e", [], "")]
        run = CutRun(Cut(Body(["y"], rows), [("f", ((1,), 2), plan_of({"x": "value", "y": "state"}, {"y": "state"}))]))
        held = [(run.frame(), run.variables())]
        for word in ["told", "yes", "told", "done", "told"]:
            run.go(word)
            held.append((run.frame(), run.variables()))
        self.assertEqual(held, [
            (None, {"y": 0}), ({"x": 1, "y": 0}, {"x": 1, "y": 0}), ({"x": 1, "y": 0}, {"x": 1, "y": 0}),
            ({"x": 1, "y": 2}, {"x": 1, "y": 0}), (None, {"x": 1, "y": 2}), (None, {"x": 1, "y": 2})])
        run = CutRun(Cut(Body([], [("do", "a", [], "x")]), [("f", ((0,), 1), plan_of({}))]))
        self.assertEqual([run.frame(), list(run.variables())], [{}, []])

    def test_dicts_are_ascending(self):
        run = CutRun(Cut(Body(["z", "b", "m"], [("do", "a", [], "c"), ("do", "d", [], "a"), ("do", "e", ["z", "b"], "")]),
                         [("f", ((0,), 3), plan_of({"z": "state", "b": "state"}))]))
        run.go("told")
        run.go("told")
        self.assertEqual([list(run.frame()), list(run.variables())], [["a", "b", "c", "z"], ["b", "m", "z"]])

    def test_words_that_do_not_fit(self):
        run = CutRun(FIRST)
        for turn in range(2):
            takes = [["fail", "told"], ["fail", "told"]][turn]
            for value in [*odd_values(), "yes", "no", "done", "shut", ("look", 1), ("look", -1), ("put", 0), ["look", 0]]:
                if (isinstance(value, str) and value in takes) or (
                        isinstance(value, tuple) and value == ("look", 0) and value[1] is not False):
                    continue
                held = (run.signs(), run.variables(), run.frame(), run.spot)
                with self.assertRaises(BadWord) as caught:
                    run.go(value)
                self.assertEqual(caught.exception.index, turn)
                self.assertEqual((run.signs(), run.variables(), run.frame(), run.spot), held)
            run.go("told")
        with self.assertRaises(BadWord):
            run.go("told")
        with self.assertRaises(BadWord) as caught:
            play_cut(FIRST, ["told", ("look", 0), "done", "told"])
        self.assertEqual(caught.exception.index, 2)

    def test_back(self):
        run = CutRun(FIRST)
        with self.assertRaises(Nothing):
            run.back()
        run.go("told")
        self.assertEqual([run.back(), run.words(), run.frame()], ["told", [], {"x": 0}])
        with self.assertRaises(Nothing):
            run.back()

    def test_copies_go_on_by_themselves(self):
        run = CutRun(FIRST)
        run.go(("look", 0))
        other = run.copied()
        self.assertIsInstance(other, CutRun)
        self.assertTrue(run == other)
        other.go("told")
        self.assertFalse(run == other)
        self.assertEqual([run.words(), run.frame(), other.words()], [[("look", 0)], {"x": 0}, [("look", 0), "told"]])
        run.go("told")
        self.assertTrue(run == other)
        other.back()
        self.assertEqual(len(run), 2)
        self.assertEqual(other.back(), ("look", 0))

    def test_equal(self):
        run = CutRun(FIRST)
        self.assertTrue(run == CutRun(Cut(CAUGHT, [("f", ((1, 0, 0), 2), Plan({"x": "value"}, {}, ()))])))
        self.assertFalse(run == CutRun(FIRST.with_plan("f", Plan({"x": "state"}, {}, []))))
        self.assertFalse(run == CutRun(Cut(CAUGHT, [])))
        self.assertFalse(CutRun(Cut(CAUGHT, [])) == Run(CAUGHT))
        self.assertFalse(Run(CAUGHT) == CutRun(Cut(CAUGHT, [])))
        self.assertTrue(Run(CAUGHT) != CutRun(Cut(CAUGHT, [])))
        for value in odd_values():
            self.assertFalse(run == value)

    def test_what_is_told_is_new(self):
        run = CutRun(FIRST)
        for ask in [run.signs, run.words, run.variables, run.frame]:
            told = ask()
            if isinstance(told, dict):
                told["q"] = 9
            else:
                told.append("q")
            self.assertNotEqual(ask(), told)
        run.go("told").append("q")
        self.assertNotIn("q", run.signs())
        self.assertIs(type(run.cut), Cut)
        self.assertTrue(run.cut == FIRST)
        self.assertTrue(run.body == CAUGHT)
        words = ["told", "told"]
        play_cut(FIRST, words)
        unlike(FIRST, words)
        self.assertEqual(words, ["told", "told"])

    def test_against_plain_recursion(self):
        for seed, body in enumerate(made_bodies(200)):
            for turn in range(3):
                dice = Dice(seed + 500 * turn)
                cut = made_cut(body, dice, 3)
                run, other, words = CutRun(cut), CutReference(cut), []
                for _ in range(14):
                    self.assertEqual((run.signs(), run.frame(), run.variables(), run.spot),
                                     (other.signs, other.frame(), other.own, other.spot))
                    if not other.takes():
                        break
                    words.append(dice.one_of(other.takes()))
                    run.go(words[-1])
                    other.go(words[-1])
                self.assertEqual(play_cut(cut, words), other.signs)
                other = run.copied()
                self.assertTrue(other == run)
                self.assertEqual([other.back() for _ in words], words[::-1])
                self.assertEqual(other.signs(), CutRun(cut).signs())
                self.assertEqual([other.frame(), other.variables()], [CutRun(cut).frame(), CutRun(cut).variables()])

    def test_each_method_stands_in_the_class(self):
        for name in ["go", "back", "signs", "words", "variables", "copied", "spot", "body", "cut", "frame", "__len__", "__eq__"]:
            self.assertIn(name, CutRun.__dict__)
        for name in ["go", "back", "signs", "words", "variables", "copied", "spot", "body", "__len__", "__eq__"]:
            self.assertIn(name, Run.__dict__)


def taken_words(body, run):
    """The words that a run of a body takes."""
    found = []
    for word in ["told", "fail", "shut", "done", "yes", "no"] + [(use, k) for use in ("look", "put") for k in range(9)]:
        try:
            run.copied().go(word)
        except BadWord:
            continue
        found.append(word)
    return found


class UnlikeTest(unittest.TestCase):
    def test_shown_otherwise(self):
        cut = Cut(Body(["x"], [A, B]), [("f", ((0,), 1), plan_of({}))])
        self.assertEqual([unlike(cut, []), unlike(cut, ["fail"]), unlike(cut, ["told"]), unlike(cut, ["told", "told"])],
                         [None, None, 1, 1])

    def test_shown_by_one_alone(self):
        cut = Cut(Body([], [B]), [("f", ((0,), 1), plan_of({"x": "value"}))])
        self.assertEqual(unlike(cut, []), 0)
        rows = [("guard", [A], []), ("do", "k", [], "")]
        cut = Cut(Body([], rows), [("f", ((0, 0, 0), 1), plan_of({}, {"x": "value"}, ["fail"]))])
        self.assertEqual([unlike(cut, ["fail"]), unlike(cut, ["told"]), unlike(cut, ["fail", "told"])], [1, None, 1])

    def test_not_shown_any_more(self):
        # The cut body lacks x and goes on elsewhere, and ends while the body still goes on.
        rows = [("do", "a", [], "x"), ("guard", [("do", "b", ["x"], "")], []), ("do", "c", [], "")]
        cut = Cut(Body([], rows), [("f", ((0,), 1), plan_of({}))])
        self.assertEqual(play(cut.body, ["told", "told", "told"])[-1], ("end", "end"))
        self.assertEqual(play_cut(cut, ["told", "told"]), [("do", "a", ()), ("lack", "b", "x"), ("do", "c", ()), ("end", "end")])
        self.assertEqual([unlike(cut, ["told"]), unlike(cut, ["told", "told", "told"])], [1, 1])

    def test_a_look(self):
        cut = Cut(Body(["x"], [("catch", "c", "x", "look"), A, B]), [("f", ((1,), 1), plan_of({}))])
        self.assertEqual([unlike(cut, [("look", 0)]), unlike(cut, [("look", 0), "told", ("look", 0)])], [None, 3])

    def test_bad_words_are_those_of_the_body(self):
        cut = Cut(Body(["x"], [A, B]), [("f", ((0,), 1), plan_of({"x": "value"}))])
        for words, index in [([0], 0), (["told", "yes"], 1), (["told", "told", "told"], 2), (["told", None, "told"], 1),
                             (["told", True], 1), ([("look", 0)], 0), (["told", "told", "end"], 2)]:
            with self.assertRaises(BadWord) as caught:
                unlike(cut, words)
            self.assertEqual(caught.exception.index, index)
        # Signs are unlike at once, and the body's run does not take a later word.
        cut = Cut(Body([], [("do", "a", [], ""), B]), [("f", ((0,), 2), plan_of({"x": "value"}))])
        self.assertEqual(unlike(cut, ["told"]), 0)
        for words, index in [(["told", "told"], 1), (["told", "fail"], 1), (["done"], 0)]:
            with self.assertRaises(BadWord) as caught:
                unlike(cut, words)
            self.assertEqual(caught.exception.index, index)

    def test_words_that_only_the_body_takes(self):
        cut = Cut(Body([], [("catch", "c", "y", "look"), B, A]), [("f", ((0,), 2), plan_of({"x": "value"}))])
        self.assertEqual(unlike(cut, [("look", 0)]), 0)
        cut = Cut(Body(["x"], [A, ("strike", "k", "x"), ("do", "m", ["x"], "")]), [("f", ((0,), 1), plan_of({}, {"x": "state"}))])
        self.assertEqual(unlike(cut, ["told", "done"]), None)

    def test_against_both_lists_of_signs(self):
        for seed, cut in enumerate(made_cuts(150)):
            dice = Dice(seed)
            run, words = Run(cut.body), []
            other = CutReference(cut)
            alive = True
            for _ in range(12):
                takes = [word for word in taken_words(cut.body, run)]
                if not takes:
                    break
                words.append(dice.one_of(takes))
                run.go(words[-1])
                if alive and words[-1] in other.takes():
                    other.go(words[-1])
                else:
                    alive = False
                mine, its = run.signs(), other.signs
                common = [k for k in range(max(len(mine), len(its)))
                          if k >= len(mine) or k >= len(its) or mine[k] != its[k]]
                self.assertEqual(unlike(cut, words), common[0] if common else None)


if __name__ == "__main__":
    unittest.main()
