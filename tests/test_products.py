"""[61]: what comes to differ between body and cut, and the words that part them; [5], [7], [10], [11]."""

import itertools
import unittest

from cutoutpieces.bodies import Body
from cutoutpieces.cuts import Cut
from cutoutpieces.cutting import unlike
from cutoutpieces.errors import TooMany
from cutoutpieces.pieces import piece_at, stretches
from cutoutpieces.plans import Plan, all_pairs, needed_ways
from cutoutpieces.playing import Run
from cutoutpieces.products import differing, is_same, parting
from cutoutpieces.tables import table
from cutreference import shortest_parting
from samples import Dice, made_bodies, made_cuts

A, B = ("do", "a", [], "x"), ("do", "b", ["x"], "")
SAVED = Body(["t"], [
    ("do", "open", [], "f"), ("guard", [("do", "write", ["f", "t"], ""), ("do", "size", ["f"], "n")], [("do", "log", ["t"], "")]),
    ("do", "close", ["f"], "")])
LOOK, PUT = ("catch", "l", "x", "look"), ("catch", "p", "x", "put")


def cut_of(given, rows, gap, many, ins, backs=None, told=()):
    """A Cut with one call."""
    return Cut(Body(given, rows), [("f", (gap, many), Plan(ins, backs or {}, told))])


def called_names(cut):
    """The names of all pieces of a cut."""
    return sorted({name for _, stretch, _ in cut.calls() for name in piece_at(cut.body, stretch).names()})


class ProductsTest(unittest.TestCase):
    def need(self, cut, names, words):
        """What differs, and how long a list of words parts body and cut, a list of words or their number."""
        self.assertEqual(differing(cut), names)
        self.assertIs(is_same(cut), names == [])
        told = parting(cut)
        if isinstance(words, int):
            self.assertEqual(len(told), words)
        else:
            self.assertEqual(told, words)
        if told is not None:
            self.need_parted(cut, told)

    def need_parted(self, cut, words):
        self.assertIsInstance(words, list)
        self.assertIsNotNone(unlike(cut, words))
        for end in range(len(words)):
            self.assertIsNone(unlike(cut, words[:end]))

    def test_the_example(self):
        whole = Cut(SAVED, [("save", ((1, 0, 0), 2), Plan({"f": "value", "t": "value"}, {}, []))])
        less = Cut(SAVED, [("save", ((1, 0, 0), 2), Plan({"f": "value"}, {}, []))])
        self.assertEqual([is_same(whole), differing(less), parting(less)], [True, ["t"], ["told"]])

    def test_without_calls(self):
        self.need(Cut(SAVED, []), [], None)
        self.need(Cut(Body([], []), []), [], None)

    def test_what_is_read(self):
        self.need(cut_of(["x"], [B], (0,), 1, {}), ["x"], [])
        self.need(cut_of(["x"], [B], (0,), 1, {"x": "value"}), [], None)
        self.need(cut_of([], [B], (0,), 1, {}), [], None)
        self.need(cut_of([], [B], (0,), 1, {"x": "state"}), [], None)
        self.need(cut_of([], [B], (0,), 1, {"x": "value"}), ["x"], [])
        self.need(cut_of(["x"], [A, B], (0,), 1, {}), ["x"], ["told"])
        self.need(cut_of(["x"], [A, B], (0,), 1, {}, {"x": "value"}), [], None)
        self.need(cut_of(["x"], [A, ("do", "c", [], "")], (0,), 1, {}), [], None)
        self.need(cut_of(["x"], [A, ("do", "c", [], ""), ("answer", "d", ["x"])], (0,), 1, {}), ["x"], ["told", "told"])

    def test_lacks(self):
        # The body lacks y, while the cut has lacked x ahead of it.
        rows = [("do", "a", ["x", "y"], "")]
        self.need(cut_of(["x"], rows, (0,), 1, {}), ["x"], [])
        self.need(cut_of(["x"], rows, (0,), 1, {"x": "state"}), [], None)
        rows = [("do", "a", ["y", "x"], "")]
        self.need(cut_of(["x"], rows, (0,), 1, {}), [], None)
        # The body lacks x, which is still set in the cut.
        rows = [("strike", "s", "x"), B]
        self.need(cut_of(["x"], rows, (0,), 1, {"x": "value"}), ["x"], ["done"])
        self.need(cut_of(["x"], rows, (0,), 1, {"x": "value"}, {"x": "value"}), ["x"], ["done"])
        self.need(cut_of(["x"], rows, (0,), 1, {"x": "value"}, {"x": "state"}), [], None)
        self.need(cut_of(["x"], rows[:1], (0,), 1, {"x": "value"}), [], None)
        # What is set otherwise is no other lack where a name ahead of it is lacked.
        rows = [A, ("do", "c", ["x", "y"], "")]
        self.need(cut_of(["x"], rows, (0,), 1, {}), [], None)

    def test_what_is_handed_by_value_is_lacked(self):
        # A name is lacked in the cut alone, which the body has.
        rows = [("if", "i", [A], []), ("do", "c", [], "")]
        self.need(cut_of(["x"], rows, (0,), 1, {}, {"x": "value"}), ["x"], ["no"])
        self.need(cut_of(["x"], rows, (0,), 1, {}, {"x": "state"}), [], None)
        calls = [("f", ((0,), 1), Plan({}, {}, [])), ("g", ((1,), 1), Plan({"x": "value"}, {}, []))]
        cut = Cut(Body([], [A, ("do", "c", [], "x")]), calls)
        self.need(cut, ["x"], ["told"])
        self.need(cut.with_plan("g", Plan({"x": "state"}, {}, [])), [], None)
        # It is lacked in the cut, and unset in the body.
        rows = [("if", "i", [A], []), ("do", "c", [], "")]
        self.need(cut_of([], rows, (0,), 1, {}, {"x": "value"}), ["x"], ["no"])
        self.need(cut_of([], rows, (0,), 1, {"x": "value"}), ["x"], [])

    def test_what_is_set_in_the_cut_alone_is_handed_by_value(self):
        rows = [("strike", "s", "x"), ("do", "c", [], "x")]
        calls = [("f", ((0,), 1), Plan({"x": "value"}, {}, [])), ("g", ((1,), 1), Plan({"x": "value"}, {}, []))]
        self.need(Cut(Body(["x"], rows), calls), [], None)
        rows = [("do", "a", [], "x"), ("strike", "s", "x"), ("do", "c", [], "")]
        calls = [("f", ((0,), 1), Plan({}, {"x": "value"}, [])), ("g", ((1,), 1), Plan({"x": "state"}, {}, [])),
                 ("h", ((2,), 1), Plan({}, {}, []))]
        self.need(Cut(Body([], rows), calls), [], None)

    def test_fails_that_are_caught(self):
        rows = [("guard", [A, ("do", "c", [], "")], [("do", "d", ["x"], "")])]
        self.need(cut_of(["x"], rows, (0, 0, 0), 2, {}, {"x": "value"}), ["x"], ["told", "fail"])
        self.need(cut_of(["x"], rows, (0, 0, 0), 2, {}, {"x": "value"}, ["fail"]), ["x"], ["fail"])
        self.need(cut_of(["x"], rows, (0, 0, 0), 2, {"x": "value"}, {"x": "value"}, ["fail"]), [], None)
        self.need(cut_of(["x"], rows, (0,), 1, {"x": "value"}, {}), [], None)

    def test_loops_and_lasts_and_shut_yields(self):
        rows = [("loop", "l", [B, ("yield", "y", [], "x")])]
        self.need(cut_of(["x"], rows, (0, 0, 1), 1, {}), ["x"], ["yes", "told", "told", "yes"])
        self.need(cut_of(["x"], rows, (0, 0, 0), 2, {"x": "value"}), ["x"], ["yes", "told", "told", "yes"])
        self.need(cut_of(["x"], rows, (0,), 1, {"x": "value"}), [], None)
        rows = [("last", [("yield", "y", [], "x"), ("yield", "z", [], "")], [B])]
        self.need(cut_of(["x"], rows, (0, 0, 0), 2, {"x": "state"}, {"x": "state"}), ["x"], 2)
        self.need(cut_of(["x"], rows, (0, 0, 0), 2, {"x": "state"}, {"x": "state"}, ["fail"]), ["x"], ["told", "shut"])
        self.need(cut_of(["x"], rows, (0, 0, 0), 2, {"x": "state"}, {"x": "state"}, ["fail", "shut"]), [], None)
        rows = [("loop", "l", [A, ("if", "i", [("leave",)], [("again",)])]), B]
        told = ["again", "leave"]
        self.need(cut_of([], rows, (0, 0, 0), 2, {}, {"x": "value"}, told), [], None)
        self.need(cut_of([], rows, (0, 0, 0), 2, {}, {}, told), ["x"], ["yes", "told", "yes"])

    def test_looks(self):
        self.need(cut_of(["x"], [LOOK, A], (1,), 1, {}), ["x"], ["told", ("look", 0)])
        self.need(cut_of(["x"], [LOOK, A], (1,), 1, {}, {"x": "value"}), [], None)
        self.need(cut_of(["x"], [LOOK, A, ("do", "c", [], "")], (1,), 2, {}, {"x": "state"}), ["x"], ["told", ("look", 0)])
        # A frame that is over is looked at.
        self.need(cut_of(["x"], [LOOK, A], (0,), 1, {"x": "state"}, {"x": "state"}), ["x"], ["told", ("look", 0)])
        self.need(cut_of(["x"], [LOOK, ("strike", "s", "x")], (0,), 1, {"x": "value"}), ["x"], ["done", ("look", 0)])
        self.need(cut_of(["x"], [LOOK, ("do", "c", [], "")], (0,), 1, {"x": "value"}), [], None)
        self.need(cut_of(["x"], [LOOK], (0,), 1, {}), ["x"], [("look", 0)])

    def test_puts(self):
        self.need(cut_of(["x"], [PUT, ("do", "c", [], ""), B], (1,), 1, {}), [], None)
        self.need(cut_of(["x"], [PUT, ("do", "c", [], ""), B], (0,), 1, {"x": "state"}), ["x"], [("put", 0), "told"])
        self.need(cut_of(["x"], [PUT, ("do", "c", ["x"], ""), B], (1,), 1, {"x": "value"}, {"x": "value"}), ["x"],
                  [("put", 0), "told"])
        self.need(cut_of([], [("catch", "q", "y", "put"), ("do", "c", [], ""), ("do", "d", ["y", "x"], "")], (2,), 1,
                         {"y": "state", "x": "state"}), [], None)

    def test_a_put_of_another_name_lets_a_row_go_on(self):
        rows = [("catch", "q", "y", "put"), ("strike", "s", "x"), ("do", "d", ["y", "x"], "")]
        cut = cut_of(["x"], rows, (1,), 1, {"x": "value"})
        self.need(cut, ["x"], [("put", 0), "done"])

    def test_functions_of_frames_that_are_over(self):
        # The first function puts a frame that is over, the second one looks at another one.
        rows = [("loop", "o", [PUT, LOOK, ("do", "c", [], "")])]
        cut = cut_of(["x"], rows, (0, 0, 0), 2, {"x": "state"}, {"x": "state"})
        self.need(cut, ["x"], 5)
        self.assertEqual([parting(cut)[0], parting(cut)[-1]], ["yes", ("look", 3)])
        rows = [("loop", "o", [PUT]), B]
        cut = cut_of(["x"], rows, (0, 0, 0), 1, {"x": "state"}, {"x": "state"})
        self.need(cut, ["x"], ["yes", ("put", 0), "no"])
        # The function of an elder frame puts it, the younger one is looked at.
        rows = [("if", "i", [PUT], []), ("if", "j", [LOOK], []), ("do", "c", [], "")]
        cut = Cut(Body(["x"], rows), [(mark, ((k,), 1), Plan({"x": "state"}, {"x": "state"}, [])) for k, mark in enumerate("fg")])
        self.need(cut, ["x"], 4)
        self.assertEqual([parting(cut)[0], parting(cut)[-1]], ["yes", ("look", 1)])

    def test_frames_that_wait_nowhere(self):
        # The frame of the second call is watched, that of the first one is not.
        rows = [PUT, LOOK, ("do", "c", [], "")]
        state = Plan({"x": "state"}, {"x": "state"}, [])
        cut = Cut(Body(["x"], rows), [("f", ((0,), 1), state), ("g", ((1,), 1), state)])
        self.need(cut, ["x"], [("put", 0), ("look", 1)])
        rows = [LOOK, PUT, ("do", "c", [], "")]
        cut = Cut(Body(["x"], rows), [("f", ((0,), 1), state), ("g", ((1,), 1), state)])
        self.need(cut, ["x"], [("put", 1), ("look", 0)])

    def test_marks_have_nothing_to_do_with_names(self):
        for cut in made_cuts(80):
            marks = cut.body.marks()
            for at in range(0, len(marks) - 1, 2):
                names = {name: name for name in cut.body.names()}
                body = cut.body.renamed(names, {**{mark: mark for mark in marks}, marks[at]: "x", marks[at + 1]: "y"})
                other = Cut(body, cut.calls())
                self.assertEqual(differing(other), differing(cut))
                self.assertEqual([table(other, name) for name in names], [table(cut, name) for name in names])

    def test_a_function_number_is_that_of_the_function_that_parts(self):
        # Only the third function looks at what the call has set.
        rows = [("catch", "k", "y", "look"), ("catch", "m", "x", "put"), LOOK, A, ("do", "c", [], "")]
        self.need(cut_of(["x"], rows, (3,), 1, {}), ["x"], ["told", ("look", 2)])
        rows = [("catch", "k", "x", "put"), ("catch", "m", "x", "put"), ("do", "c", [], ""), B]
        self.need(cut_of(["x"], rows, (1,), 2, {"x": "state"}, {"x": "state"}), ["x"], 2)
        self.assertEqual(parting(cut_of(["x"], rows, (1,), 2, {"x": "state"}, {"x": "none"})), [("put", 1), "told"])

    def test_several_calls(self):
        four = Body(["x"], [("strike", "p", "x"), ("do", "a", [], "x"), ("strike", "q", "x"), ("do", "d", ["x"], "")])
        calls = [("f", ((0,), 1), Plan({"x": "state"}, {}, [])), ("g", ((1,), 2), Plan({}, {}, []))]
        self.need(Cut(four, calls[:1]), [], None)
        self.need(Cut(four, calls[1:]), ["x"] if parting(Cut(four, calls[1:])) else [], parting(Cut(four, calls[1:])))
        self.need(Cut(four, calls), ["x"], ["done", "told", "done"])
        rows = [A, ("do", "c", ["x"], "y"), ("do", "d", ["y"], "z"), ("do", "e", ["z"], "")]
        calls = [(mark, ((k,), 1), Plan({name: "value"} if name else {}, {gets: "value"}, []))
                 for k, (mark, name, gets) in enumerate([("f", "", "x"), ("g", "x", "y"), ("h", "y", "z")])]
        self.need(Cut(Body([], rows), calls), [], None)
        self.need(Cut(Body([], rows), calls).with_plan("g", Plan({"x": "value"}, {}, [])), ["y"], ["told", "told"])
        self.need(Cut(Body([], rows), calls).with_plan("h", Plan({}, {"z": "value"}, [])), ["y"], ["told", "told"])

    def test_names_of_no_piece_do_not_differ(self):
        rows = [("catch", "q", "y", "put"), ("catch", "r", "y", "look"), ("do", "c", [], ""), ("do", "d", ["y"], "y"), ("strike", "s", "y")]
        self.need(cut_of(["y"], rows, (2,), 1, {}), [], None)

    def test_shortest_among_several_names(self):
        rows = [("do", "a", ["y"], "x"), ("do", "b", [], "y"), ("do", "c", ["x"], ""), ("do", "d", ["y"], "")]
        cut = cut_of(["y"], rows, (0,), 2, {"y": "value"})
        self.need(cut, ["x", "y"], ["told", "told"])
        self.need(cut_of(["y"], rows, (0,), 2, {}), ["x", "y"], [])
        rows[2:] = [("do", "d", ["y"], ""), ("do", "c", ["x"], "")]
        self.need(cut_of(["y"], rows, (0,), 2, {"y": "value"}, {"y": "value"}), ["x"], ["told"] * 3)

    def test_against_trying_all_words(self):
        told = {"same": 0, "parted": 0}
        for names, many, skip in [(("x",), 200, 0), (("x", "y"), 160, 20), (("x", "y", "z"), 60, 10)]:
            for cut in made_cuts(many, names)[skip:]:
                words = parting(cut)
                other = shortest_parting(cut, 400)
                if other == "too many":
                    continue
                told["same" if other is None else "parted"] += 1
                self.assertIs(is_same(cut), other is None)
                self.assertIs(differing(cut) == [], other is None)
                self.assertEqual(words is None, other is None)
                if other is not None:
                    self.assertEqual(len(words), len(other))
                    self.need_parted(cut, words)
        self.assertTrue(min(told.values()) > 100, told)

    def test_no_list_of_words_up_to_a_length_parts_what_is_the_same(self):
        for cut in [cut for cut in made_cuts(80) if is_same(cut)][:25]:
            self.try_all(cut, Run(cut.body), 5)

    def try_all(self, cut, run, left):
        self.assertIsNone(unlike(cut, run.words()))
        if left == 0:
            return
        for word in ["told", "fail", "shut", "done", "yes", "no", ("look", 0), ("put", 0), ("put", 1), ("look", 1)]:
            try:
                run.go(word)
            except ValueError:
                continue
            self.try_all(cut, run, left - 1)
            run.back()

    def test_name_by_name(self):
        # [5], [7]: whether a name differs is told by its own pairs, whatever the others are.
        for k, body in enumerate(made_bodies(40, ("x", "y"))):
            dice = Dice(k)
            stretch = dice.one_of(stretches(body))
            piece = piece_at(body, stretch)
            if piece.names() != ["x", "y"]:
                continue
            told = needed_ways(piece) + ["fail"]
            for pair in all_pairs():
                answers = []
                for other in [("none", "none"), ("value", "state"), ("state", "none"), ("state", "state")]:
                    plan = Plan({"x": pair[0], "y": other[0]}, {"x": pair[1], "y": other[1]}, told)
                    answers.append("x" in differing(Cut(body, [("f", stretch, plan)])))
                self.assertEqual(len(set(answers)), 1)

    def test_most(self):
        checked = 0
        for cut in made_cuts(120):
            sizes = [len(table(cut, name)) for name in called_names(cut) if table(cut, name) is not None]
            if not sizes:
                continue
            asks = [differing, is_same, parting]
            if differing(cut):
                # The states of the names that differ may be more.
                enough = max([*sizes, 5000])
                self.assertEqual([ask(cut, most=enough) for ask in asks], [ask(cut) for ask in asks])
                continue
            self.assertEqual([ask(cut, most=max(sizes)) for ask in asks], [[], True, None])
            if max(sizes) == 1:
                continue
            checked += 1
            for ask in asks:
                for most in {max(sizes) - 1, 1}:
                    with self.assertRaises(TooMany) as caught:
                        ask(cut, most=most)
                    self.assertEqual(caught.exception.most, most)
        self.assertTrue(checked > 20)

    def test_most_where_another_name_differs(self):
        rows = [("catch", "q", "y", "put"), ("do", "c", ["y"], "y"), ("do", "d", ["x"], "")]
        cut = cut_of(["x", "y"], rows, (0,), 3, {"y": "state"}, {"y": "state"})
        self.assertEqual(differing(cut), ["x"])
        with self.assertRaises(TooMany):
            differing(cut, most=2)
        many = len(table(cut, "y"))
        self.assertEqual([differing(cut, most=many), is_same(cut, most=many), parting(cut, most=many)], [["x"], False, ["told"]])

    def test_asking_again_and_one_behind_another(self):
        cuts = made_cuts(30)
        first = [(differing(cut), is_same(cut), parting(cut)) for cut in cuts]
        other = [(differing(cut), is_same(cut), parting(cut)) for cut in reversed(cuts)]
        self.assertEqual(first, other[::-1])
        for cut, (names, _, words) in zip(cuts, first):
            held = (cut.body.rows(), cut.calls())
            differing(cut).append("q")
            if words is not None:
                parting(cut).append("q")
            self.assertEqual((differing(cut), parting(cut)), (names, words))
            self.assertEqual((cut.body.rows(), cut.calls()), held)

    def test_given_in_another_order(self):
        # [10]
        for cut in made_cuts(60):
            for calls in itertools.permutations(cut.calls()):
                self.assertEqual(differing(Cut(cut.body, calls)), differing(cut))

    def test_names_and_marks_exchanged(self):
        # [11]
        for cut in made_cuts(60):
            names = {"x": "y", "y": "x"}
            marks = {mark: "z" + mark[::-1] for mark in cut.body.marks()}
            body = cut.body.renamed({name: names[name] for name in cut.body.names()}, marks)
            calls = []
            for mark, stretch, plan in cut.calls():
                ins = {names[name]: handing for name, handing in plan.ins().items()}
                backs = {names[name]: handing for name, handing in plan.backs().items()}
                calls.append(("o" + mark, stretch, Plan(ins, backs, plan.told)))
            other = Cut(body, calls)
            self.assertEqual(differing(other), sorted(names[name] for name in differing(cut)))
            words = parting(cut)
            self.assertEqual(len(parting(other)) if words is not None else None, len(words) if words is not None else parting(other))

    def test_state_by_state_or_not_at_all_goes_together(self):
        # [8]: no strike, and all names given.
        checked = 0
        for body in made_bodies(400, ("x", "y")):
            if body.names() != list(body.given) or any(body.row_at(at)[0] == "strike" for at in body.addresses()):
                continue
            calls = []
            for name, stretch in zip("fgh", stretches(body)[::3]):
                piece = piece_at(body, stretch)
                told = needed_ways(piece) + ["fail", "shut"]
                everything = {held: "state" for held in piece.names()}
                for plan in [Plan({}, {}, told), Plan(everything, everything, told)]:
                    try:
                        cut = Cut(body, [*calls, (name, stretch, plan)])
                    except ValueError:
                        continue
                    if is_same(Cut(body, [(name, stretch, plan)])):
                        calls = cut.calls()
                        break
            if len(calls) > 1:
                checked += 1
                self.assertTrue(is_same(Cut(body, calls)))
        self.assertTrue(checked > 5)


if __name__ == "__main__":
    unittest.main()
