"""[31]: runs of a body, word by word."""

import unittest

from cutoutpieces.bodies import Body
from cutoutpieces.errors import BadWord, Nothing
from cutoutpieces.playing import Run, play
from reference import Reference
from samples import Dice, made_bodies, odd_values


def do(name, gets="", reads=()):
    """A deed."""
    return ("do", name, list(reads), gets)


CAUGHT = [
    ("catch", "c", "x", "look"), ("guard", [do("a", "x", ["x"]), do("b", "", ["y"])], [do("e", "", ["x"])])]


class PlayTest(unittest.TestCase):
    def need(self, rows, words, signs, given=()):
        """The signs of a run, all at once and word by word."""
        body = Body(given, rows)
        self.assertEqual(play(body, words), signs)
        run = Run(body)
        told = run.signs()
        for word in words:
            told += run.go(word)
            self.assertEqual(run.signs(), told)
        self.assertEqual(told, signs)
        self.assertEqual(run.words(), words)

    def test_the_example(self):
        self.need(CAUGHT, [("look", 0), "told", "fail"], [
            ("catch", "c", "look"), ("do", "a", (0,)), ("look", 0, 0), ("lack", "b", "y"), ("do", "e", (1,)),
            ("end", "fail")], given=["x"])
        self.assertEqual(Run(Body(["x"], CAUGHT)).spot, ((1, 0, 0), ()))

    def test_no_rows(self):
        self.need([], [], [("end", "end")])
        self.need([("guard", [], [])], [], [("end", "end")])

    def test_values_count_on(self):
        rows = [do("a", "", ["x", "z", "y", ]), do("b", "w"), ("yield", "c", ["w"], ""), ("yield", "d", [], "x"),
                ("answer", "e", ["x", "w", "x"])]
        self.need(rows, ["told"] * 4, [
            ("do", "a", (0, 2, 1)), ("do", "b", ()), ("yield", "c", (4,)), ("yield", "d", ()), ("answer", "e", (6, 4, 6)),
            ("end", "answer")], given=["z", "y", "x"])

    def test_given_values_go_by_the_order_of_names(self):
        self.need([do("a", "", ["d", "b"]), do("e", "", ["c", "a"])], ["told"], [
            ("do", "a", (3, 1)), ("do", "e", (2, 0))], given=["d", "a", "c", "b"])

    def test_a_strike(self):
        rows = [("strike", "a", "x"), do("b", "", ["x"])]
        self.need(rows, ["done"], [("strike", "a", 0), ("lack", "b", "x"), ("end", "fail")], given=["x"])
        self.need(rows, ["fail"], [("strike", "a", 0), ("end", "fail")], given=["x"])
        self.need(rows, [], [("lack", "a", "x"), ("end", "fail")])
        self.need([("guard", [("strike", "a", "x")], [do("b", "", ["x"])])], ["fail", "told"], [
            ("strike", "a", 0), ("do", "b", (0,)), ("end", "end")], given=["x"])

    def test_a_failed_deed_sets_nothing(self):
        rows = [("guard", [("yield", "a", [], "x")], [do("b", "", ["x"])])]
        self.need(rows, ["fail", "told"], [("yield", "a", ()), ("do", "b", (0,)), ("end", "end")], given=["x"])
        self.need(rows, ["shut"], [("yield", "a", ()), ("end", "shut")], given=["x"])
        self.need(rows, ["fail"], [("yield", "a", ()), ("lack", "b", "x"), ("end", "fail")])

    def test_ifs_and_loops(self):
        rows = [("loop", "a", [("if", "b", [("leave",)], [("again",)])]), do("c")]
        self.need(rows, ["yes", "no", "yes", "yes", "told"], [
            ("ask", "a"), ("ask", "b"), ("ask", "a"), ("ask", "b"), ("do", "c", ()), ("end", "end")])
        self.need(rows, ["no"], [("ask", "a"), ("do", "c", ())])
        self.need(rows, ["fail"], [("ask", "a"), ("end", "fail")])
        self.need(rows, ["yes", "fail"], [("ask", "a"), ("ask", "b"), ("end", "fail")])

    def test_lasts(self):
        rows = [("last", [("yield", "a", [], "x"), ("answer", "b", ["x"])], [do("c"), do("d", "", ["x"])])]
        self.need(rows, ["told", "told", "told"], [
            ("yield", "a", ()), ("answer", "b", (0,)), ("do", "c", ()), ("do", "d", (0,)), ("end", "answer")])
        self.need(rows, ["shut", "told"], [("yield", "a", ()), ("do", "c", ()), ("lack", "d", "x"), ("end", "fail")])
        self.need(rows, ["told", "fail"], [("yield", "a", ()), ("answer", "b", (0,)), ("do", "c", ()), ("end", "fail")])
        self.need([("last", [("yield", "a", [], "")], [])], ["shut"], [("yield", "a", ()), ("end", "shut")])

    def test_uses(self):
        rows = [("catch", "a", "x", "look"), ("catch", "b", "y", "put"), ("catch", "c", "y", "look"),
                ("catch", "d", "x", "put"), do("e", "x", ["x"])]
        self.need(rows, [("look", 0), ("look", 2), ("put", 1), ("put", 3), ("look", 0), ("look", 2), "told", ("look", 0),
                         ("put", 3), ("look", 0)], [
            ("catch", "a", "look"), ("catch", "b", "put"), ("catch", "c", "look"), ("catch", "d", "put"), ("do", "e", (0,)),
            ("look", 0, 0), ("look", 2, None), ("put", 1), ("put", 3), ("look", 0, 2), ("look", 2, 1), ("end", "end"),
            ("look", 0, 3), ("put", 3), ("look", 0, 4)], given=["x"])

    def test_what_was_struck_can_be_looked_at_and_put(self):
        rows = [("catch", "a", "x", "look"), ("catch", "b", "x", "put"), ("strike", "c", "x"), do("d"), do("e", "", ["x"])]
        self.need(rows, [("look", 0), "done", ("look", 0), ("put", 1), ("look", 0), "told", "told"], [
            ("catch", "a", "look"), ("catch", "b", "put"), ("strike", "c", 0), ("look", 0, 0), ("do", "d", ()),
            ("look", 0, None), ("put", 1), ("look", 0, 1), ("do", "e", (1,)), ("end", "end")], given=["x"])

    def test_a_put_while_a_strike_waits(self):
        rows = [("catch", "b", "x", "put"), ("strike", "c", "x"), ("guard", [do("d", "", ["x"])], [])]
        self.need(rows, [("put", 0), "done"], [
            ("catch", "b", "put"), ("strike", "c", 0), ("put", 0), ("lack", "d", "x"), ("end", "end")], given=["x"])

    def test_catches_in_a_loop_count_on(self):
        rows = [("loop", "a", [("catch", "b", "x", "put"), ("catch", "c", "x", "look")])]
        self.need(rows, ["yes", "yes", ("put", 0), ("look", 1), ("look", 3), ("put", 2), ("look", 1), "no"], [
            ("ask", "a"), ("catch", "b", "put"), ("catch", "c", "look"), ("ask", "a"), ("catch", "b", "put"),
            ("catch", "c", "look"), ("ask", "a"), ("put", 0), ("look", 1, 0), ("look", 3, 0), ("put", 2), ("look", 1, 1),
            ("end", "end")])

    def test_a_lack_is_of_the_first_unset_name(self):
        self.need([do("a", "x", ["x", "z", "y"])], [], [("lack", "a", "z"), ("end", "fail")], given=["x"])
        self.need([("answer", "a", ["x", "z", "y"])], [], [("lack", "a", "z"), ("end", "fail")], given=["x"])

    def test_against_plain_recursion(self):
        for seed, body in enumerate(made_bodies(250)):
            for turn in range(3):
                dice, run, other = Dice(seed + turn * 1000), Run(body), Reference(body)
                words = []
                self.assertEqual([run.signs(), run.spot], [other.signs, other.spot])
                for _ in range(30):
                    takes = other.takes()
                    if not takes:
                        break
                    word = dice.one_of(takes)
                    seen = len(other.signs)
                    other.go(word)
                    words.append(word)
                    self.assertEqual(run.go(word), other.signs[seen:])
                    self.assertEqual([run.spot, run.variables()], [other.spot, other.values])
                self.assertEqual(play(body, words), other.signs)


class BadWordTest(unittest.TestCase):
    def need(self, run, thing):
        """The run does not take any value, and stays as it was."""
        kept = [run.signs(), run.words(), run.variables(), run.spot, len(run)]
        with self.assertRaises(BadWord) as held:
            run.go(thing)
        self.assertEqual(held.exception.index, len(run))
        self.assertEqual([run.signs(), run.words(), run.variables(), run.spot, len(run)], kept)
        with self.assertRaises(BadWord) as held:
            play(run.body, [*run.words(), thing, "told"])
        self.assertEqual(held.exception.index, len(run))

    def test_words_that_do_not_fit(self):
        words = ["told", "done", "yes", "no", "fail", "shut"]
        rows = {"do": do("a"), "yield": ("yield", "a", [], ""), "strike": ("strike", "a", "x"), "if": ("if", "a", [], []),
                "loop": ("loop", "a", []), "answer": ("answer", "a", [])}
        takes = {"do": ["told", "fail"], "yield": ["told", "fail", "shut"], "strike": ["done", "fail"],
                 "if": ["yes", "no", "fail"], "loop": ["yes", "no", "fail"], "answer": []}
        for kind, row in rows.items():
            for word in words:
                run = Run(Body(["x"], [row]))
                if word in takes[kind]:
                    run.go(word)
                    self.assertEqual(run.words(), [word])
                else:
                    self.need(run, word)

    def test_any_value(self):
        body = Body(["x"], [("catch", "a", "x", "look"), ("catch", "b", "x", "put"), do("c"), do("d")])
        for begun in [[], ["told"], ["told", "told"], [("put", 1), "told"]]:
            run = Run(body)
            for word in begun:
                run.go(word)
            for thing in odd_values():
                takes = ["('look', 0)"] if run.spot[0] == () else ["('look', 0)", "'told'"]
                if repr(thing) not in takes:
                    self.need(run, thing)

    def test_uses_that_do_not_fit(self):
        run = Run(Body(["x"], [("catch", "a", "x", "look"), ("catch", "b", "x", "put"), do("c"), ("catch", "d", "x", "put")]))
        for thing in [("look", 1), ("put", 0), ("look", 2), ("put", 2), ("look", -1), ("put", -1), ("look", False),
                      ("put", True), ["look", 0], ("look",), ("look", 0, 0), ("look", "0"), ("look", None), (0, "look"),
                      ("Look", 0), (b"look", 0), (["look"], 0), ("look", [0]), "look", "put", 0, ("read", 0), ()]:
            self.need(run, thing)
        self.assertEqual(run.go(("put", 1)), [("put", 1)])
        self.assertEqual(run.go("told"), [("catch", "d", "put"), ("end", "end")])
        self.assertEqual(run.go(("put", 2)), [("put", 2)])
        for thing in [("look", 2), ("put", 0), ("put", 3), "told", "fail"]:
            self.need(run, thing)

    def test_the_index_counts_all_words(self):
        body = Body([], [("catch", "a", "x", "put"), do("b")])
        for words, index in [([1], 0), ([("put", 0), ("put", 0), "done"], 2), (["told", "told"], 1), ([None, "told"], 0),
                             (["told", ("put", 0), ("put", 1), None], 2)]:
            with self.assertRaises(BadWord) as held:
                play(body, words)
            self.assertEqual(held.exception.index, index)


class RunTest(unittest.TestCase):
    def setUp(self):
        self.body = Body(["x"], CAUGHT)

    def test_what_it_tells(self):
        run = Run(self.body)
        self.assertIs(run.body, run.body)
        self.assertEqual([run.body, run.spot, len(run), run.words(), run.variables()],
                         [self.body, ((1, 0, 0), ()), 0, [], {"x": 0}])
        run.go(("look", 0))
        self.assertEqual([run.spot, len(run), run.words()], [((1, 0, 0), ()), 1, [("look", 0)]])
        run.go("told")
        self.assertEqual([run.spot, len(run), run.words(), run.variables()],
                         [((1, 1, 0), ()), 2, [("look", 0), "told"], {"x": 1}])
        run.go("fail")
        self.assertEqual([run.spot, len(run)], [((), ("fail",)), 3])

    def test_variables_ascend(self):
        run = Run(Body(["m"], [do("a", "z"), do("b", "c"), ("strike", "d", "m"), do("e", "b")]))
        for word in ["told", "told"]:
            run.go(word)
        self.assertEqual(list(run.variables().items()), [("c", 2), ("m", 0), ("z", 1)])
        run.go("done")
        run.go("told")
        self.assertEqual(list(run.variables().items()), [("b", 3), ("c", 2), ("z", 1)])

    def test_back(self):
        for seed, body in enumerate(made_bodies(60)):
            dice, run, trail = Dice(seed), Run(body), []
            for _ in range(15):
                takes = replayed_takes(body, run.words())
                if not takes:
                    break
                trail.append([run.signs(), run.words(), run.variables(), run.spot])
                run.go(dice.one_of(takes))
            words = run.words()
            while trail:
                self.assertEqual(run.back(), words.pop())
                self.assertEqual([run.signs(), run.words(), run.variables(), run.spot], trail.pop())
            with self.assertRaises(Nothing):
                run.back()
            self.assertEqual(run, Run(body))

    def test_back_and_another_way(self):
        body = Body([], [("loop", "a", [("catch", "b", "x", "put"), do("c", "y")])])
        run = Run(body)
        for word in ["yes", ("put", 0), "told", "yes"]:
            run.go(word)
        self.assertEqual([run.back(), run.back(), run.back()], ["yes", "told", ("put", 0)])
        self.assertEqual(run.variables(), {})
        for word in ["told", "yes", ("put", 1), ("put", 0)]:
            run.go(word)
        self.assertEqual(run.signs(), play(body, ["yes", "told", "yes", ("put", 1), ("put", 0)]))
        self.assertEqual(run.variables(), {"x": 2, "y": 0})
        run.back()
        run.back()
        run.back()
        with self.assertRaises(BadWord) as held:
            run.go(("put", 1))
        self.assertEqual(held.exception.index, 2)

    def test_nothing_to_take_back(self):
        run = Run(self.body)
        with self.assertRaises(Nothing):
            run.back()
        self.assertEqual(run, Run(self.body))

    def test_copied(self):
        run = Run(self.body)
        run.go(("look", 0))
        other = run.copied()
        self.assertIsNot(other, run)
        self.assertEqual([other == run, other.signs(), other.spot, other.variables()],
                         [True, run.signs(), run.spot, run.variables()])
        other.go("told")
        self.assertEqual([run.words(), len(run), run.variables(), run.spot], [[("look", 0)], 1, {"x": 0}, ((1, 0, 0), ())])
        self.assertEqual([other.words(), other.variables()], [[("look", 0), "told"], {"x": 1}])
        run.back()
        self.assertEqual(other.words(), [("look", 0), "told"])
        self.assertEqual([other.back(), other.back(), other == run], ["told", ("look", 0), True])
        self.assertIs(other == run, True)

    def test_equal(self):
        run, other = Run(self.body), Run(Body(("x",), CAUGHT))
        self.assertIs(run == other, True)
        self.assertIs(run != other, False)
        run.go("told")
        self.assertIs(run == other, False)
        self.assertIs(run != other, True)
        other.go("fail")
        self.assertIs(run == other, False)
        other.back()
        other.go("told")
        self.assertIs(run == other, True)
        self.assertIs(Run(self.body) == Run(Body([], CAUGHT)), False)
        self.assertIs(Run(Body([], [])) == Run(Body(["x"], [])), False)
        for thing in [*odd_values(), self.body, run.words(), run.signs()]:
            self.assertIs(run == thing, False)

    def test_told_lists_and_dicts_are_new(self):
        run = Run(self.body)
        told = run.go("told")
        told.append("more")
        for ask in [run.signs, run.words, run.variables]:
            first = ask()
            kept = list(first)
            first.clear()
            self.assertEqual(list(ask()), kept)
            self.assertIsNot(ask(), ask())
        run.variables()["y"] = 7
        self.assertEqual(run.variables(), {"x": 1})
        self.assertEqual(run.signs(), play(self.body, ["told"]))
        play(self.body, ["told"]).clear()
        self.assertEqual(run.signs(), play(self.body, ["told"]))

    def test_arguments_stay(self):
        words = [("look", 0), "told", "fail"]
        play(self.body, words)
        self.assertEqual(words, [("look", 0), "told", "fail"])
        self.assertEqual(self.body, Body(["x"], CAUGHT))

    def test_names_and_marks_exchanged(self):
        names = {"x": "a", "y": "b", "z": "c"}
        for seed, body in enumerate(made_bodies(60)):
            marks = {mark: "n" + mark[1:][::-1] for mark in body.marks()}
            run, other, dice = Run(body), Run(body.renamed(names, marks)), Dice(seed)
            for _ in range(15):
                takes = replayed_takes(body, run.words())
                if takes:
                    word = dice.one_of(takes)
                    self.assertEqual([told[0] for told in run.go(word)], [told[0] for told in other.go(word)])
            self.assertEqual(other.signs(), [exchanged(told, names, marks) for told in run.signs()])
            self.assertEqual(other.variables(), {names[name]: value for name, value in run.variables().items()})


def replayed_takes(body, words):
    """The words that can come behind some words."""
    run = Reference(body)
    for word in words:
        run.go(word)
    return run.takes()


def exchanged(sign, names, marks):
    """A sign with other names and marks."""
    if sign[0] in ("look", "put", "end"):
        return sign
    if sign[0] == "lack":
        return (sign[0], marks[sign[1]], names[sign[2]])
    return (sign[0], marks[sign[1]], *sign[2:])
