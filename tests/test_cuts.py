"""[50]: cuts, which are bodies with calls in the places of pieces."""

import itertools
import unittest

from cutoutpieces.bodies import Body
from cutoutpieces.cuts import Cut
from cutoutpieces.errors import BadMark, NoMark, NoName, NoStretch, Overlap, PieceError, Untold, Wrong
from cutoutpieces.pieces import is_stretch, piece_at, stretches
from cutoutpieces.plans import Plan
from samples import Dice, made_bodies, made_cuts, made_plan, odd_values

ROWS = [
    ("do", "a", [], "x"), ("guard", [("do", "b", ["x"], ""), ("strike", "c", "x")], [("do", "d", ["y"], "y")]),
    ("loop", "e", [("if", "f", [("leave",)], []), ("do", "g", [], "y")])]
BODY = Body(["y"], ROWS)
NONE = Plan({}, {}, [])
LEAVE = Plan({}, {}, ["leave"])


def same_rows(body, stretch, other):
    """Whether two stretches have a row in common, by the addresses of all rows."""
    def held(gap, many):
        tops = [(*gap[:-1], gap[-1] + index) for index in range(many)]
        return {at for at in body.addresses() if any(at[:len(top)] == top for top in tops)}
    return bool(held(*stretch) & held(*other))


class CutTest(unittest.TestCase):
    def fails(self, calls, error, field, held, body=BODY):
        for given in [calls, tuple(calls), [list(call) for call in calls]]:
            with self.assertRaises(error) as caught:
                Cut(body, given)
            self.assertEqual(type(caught.exception), error)
            self.assertEqual(getattr(caught.exception, field), held)

    def test_calls_stand_by_place(self):
        calls = [("q", ((2, 0, 0), 1), LEAVE), ("r", ((1, 0, 1), 1), Plan({"x": "state"}, {}, [])), ("p", ((0,), 1), NONE),
                 ("o", ((1, 1, 0), 1), NONE), ("s", ((1, 0, 0), 1), NONE)]
        in_order = [calls[2], calls[4], calls[1], calls[3], calls[0]]
        for given in itertools.permutations(calls):
            cut = Cut(BODY, given)
            self.assertEqual(cut.calls(), in_order)
            self.assertEqual(cut.marks(), ["p", "s", "r", "o", "q"])
            self.assertTrue(cut == Cut(BODY, calls))
        cut = Cut(BODY, [list(call) for call in calls])
        self.assertEqual(cut.calls(), in_order)
        self.assertTrue(all(isinstance(call, tuple) for call in cut.calls()))
        self.assertEqual(len(cut), 5)
        self.assertTrue(cut.body == BODY)
        self.assertEqual([cut.call(mark) for mark in cut.marks()], in_order)

    def test_no_calls(self):
        cut = Cut(BODY, ())
        self.assertEqual([cut.calls(), cut.marks(), len(cut), "a" in cut], [[], [], 0, False])

    def test_a_stretch_may_be_all_rows(self):
        self.assertEqual(len(Cut(BODY, [("p", ((0,), 3), NONE)])), 1)

    def test_marks(self):
        cut = Cut(BODY, [("p", ((0,), 1), NONE)])
        for value in [*odd_values(), "p", "a"]:
            is_mark = isinstance(value, str) and value == "p"
            self.assertIs(value in cut, is_mark)
            for ask in [cut.call, cut.without, lambda mark: cut.with_plan(mark, NONE)]:
                if is_mark:
                    ask(value)
                    continue
                with self.assertRaises(NoMark) as caught:
                    ask(value)
                self.assertIs(caught.exception.mark, value)

    def test_marks_of_several_calls(self):
        calls = [("s", ((0,), 1), NONE), ("r", ((1, 0, 0), 1), Plan({"x": "value"}, {}, [])), ("p", ((1, 1, 0), 1), NONE),
                 ("q", ((2, 0, 0), 2), LEAVE)]
        fail = Plan({}, {}, ["fail", "leave"])
        for given in itertools.permutations(calls):
            cut = Cut(BODY, given)
            for k, call in enumerate(calls):
                self.assertEqual(cut.call(call[0]), call)
                self.assertEqual(cut.without(call[0]).calls(), calls[:k] + calls[k + 1:])
                self.assertEqual(cut.with_plan(call[0], fail).calls(), [*calls[:k], (*call[:2], fail), *calls[k + 1:]])
            for value in [*odd_values(), *BODY.marks(), *BODY.names(), *calls, "ss", "", ("s",), ["s"], {"s": 0}, b"s"]:
                for ask in [cut.call, cut.without, lambda mark: cut.with_plan(mark, NONE), lambda mark: cut.with_plan(mark, None)]:
                    with self.assertRaises(NoMark) as caught:
                        ask(value)
                    self.assertIs(caught.exception.mark, value)
            self.assertEqual([cut.calls(), cut.marks(), len(cut)], [calls, ["s", "r", "p", "q"], 4])
            self.assertTrue(cut == Cut(BODY, calls))

    def test_wrong(self):
        for value in odd_values():
            if not isinstance(value, Body):
                with self.assertRaises(Wrong) as caught:
                    Cut(value, None)
                self.assertEqual(caught.exception.place, 0)
            if not (isinstance(value, (list, tuple)) and len(value) == 0):
                with self.assertRaises(Wrong) as caught:
                    Cut(BODY, value)
                self.assertEqual(caught.exception.place, 1)
            call = ["p", ((0,), 1), NONE]
            for place in range(3):
                if place == 0 and isinstance(value, str) and value.isalpha() and value.islower() and len(value) < 9:
                    continue
                if (place == 1 and value == ((0,), 1) and value[1] is not True) or (place == 2 and isinstance(value, Plan)):
                    continue
                with self.assertRaises(Wrong) as caught:
                    Cut(BODY, [*[(m, ((0,), 9), NONE) for m in "mn"], [*call[:place], value, *call[place + 1:]]])
                self.assertEqual(caught.exception.place, 1)
                with self.assertRaises(Wrong) as caught:
                    Cut(BODY, []).with_call(*call[:place], value, *call[place + 1:])
                self.assertEqual(caught.exception.place, place)

    def test_wrong_calls(self):
        good = ("p", ((0,), 1), NONE)
        for call in [good[:2], (*good, 0), (), "pqr", {0: good}, ("p", [(0,), 1], NONE), ("p", ((0,), 0), NONE),
                     ("p", ((0,), True), NONE), ("p", ([0], 1), NONE), ("p", ((0,), 1, 1), NONE), ("p", ((0, 0), 1), NONE),
                     ("p", ((-1,), 1), NONE), ("p", ((False,), 1), NONE), ("p", ((0,), -1), NONE), ("p", (0, 1), NONE)]:
            for calls in [[call], (good, call)]:
                with self.assertRaises(Wrong) as caught:
                    Cut(BODY, calls)
                self.assertEqual(caught.exception.place, 1)
        for calls in [good, {"p": good}, {0: good}, "p"]:
            with self.assertRaises(Wrong) as caught:
                Cut(BODY, calls)
            self.assertEqual(caught.exception.place, 1)

    def test_with_call_is_wrong_at_the_first_place(self):
        cut = Cut(BODY, [])
        for given, place in [(("P", None, None), 0), (("p", ((0,), 0), None), 1), (("p", ((0,), 1), None), 2),
                             (("a", ((9,), 9), {}), 2), (("a", ((0,), True), NONE), 1)]:
            with self.assertRaises(Wrong) as caught:
                cut.with_call(*given)
            self.assertEqual(caught.exception.place, place)

    def test_no_stretch(self):
        for stretch in [((0,), 4), ((3,), 1), ((1,), 3), ((1, 0, 0), 3), ((0, 0, 0), 1), ((1, 2, 0), 1), ((2, 0, 0, 0, 1), 1),
                        ((2, 1, 0), 1), ((0,), 10 ** 30)]:
            self.fails([("p", stretch, NONE)], NoStretch, "stretch", stretch)
            with self.assertRaises(NoStretch) as caught:
                Cut(BODY, []).with_call("p", stretch, NONE)
            self.assertIs(caught.exception.stretch, stretch)

    def test_bad_mark(self):
        self.fails([("c", ((0,), 1), NONE)], BadMark, "mark", "c")
        self.fails([("p", ((0,), 1), NONE), ("p", ((1,), 1), NONE)], BadMark, "mark", "p")
        self.fails([("p", ((0,), 1), NONE), ("g", ((1,), 1), NONE), ("p", ((2,), 1), NONE)], BadMark, "mark", "g")

    def test_overlap(self):
        for one, other in [(((0,), 2), ((1,), 1)), (((0,), 1), ((0,), 1)), (((1,), 1), ((1, 0, 1), 1)),
                           (((0,), 2), ((1, 1, 0), 1)), (((1, 0, 0), 2), ((1, 0, 1), 1)), (((0,), 3), ((2, 0, 0, 0, 0), 1))]:
            plan = LEAVE
            self.fails([("p", one, plan), ("q", other, plan)], Overlap, "mark", "q")
            self.fails([("p", other, plan), ("q", one, plan)], Overlap, "mark", "q")
        Cut(BODY, [("p", ((1, 0, 0), 1), NONE), ("q", ((1, 0, 1), 1), NONE), ("r", ((1, 1, 0), 1), NONE)])

    def test_each_error_over_all_calls_ahead_of_the_next(self):
        unfit, untold = Plan({"z": "value"}, {}, []), NONE
        calls = [("p", ((2, 0, 0), 1), untold), ("q", ((1,), 1), unfit), ("r", ((1, 0, 0), 1), NONE), ("q", ((0,), 1), NONE),
                 ("s", ((7,), 1), NONE), ("t", ((8,), 1), NONE)]
        self.fails(calls, NoStretch, "stretch", ((7,), 1))
        self.fails(calls[:4], BadMark, "mark", "q")
        self.fails(calls[:3], Overlap, "mark", "r")
        self.fails(calls[:2], Untold, "way", "leave")
        self.fails(calls[1::-1], NoName, "name", "z")
        self.fails([("c", ((1,), 1), NONE), ("d", ((1,), 1), NONE)], BadMark, "mark", "c")
        self.fails([("p", ((0,), 1), Plan({"y": "value", "k": "value"}, {"b": "state"}, []))], NoName, "name", "b")
        self.fails([("p", ((0,), 1), Plan({"y": "value"}, {}, []))], NoName, "name", "y")

    def test_with_call_without_and_with_plan(self):
        for cut, dice in zip(made_cuts(60), (Dice(k + 7) for k in range(60))):
            calls = cut.calls()
            for stretch in stretches(cut.body):
                plan = made_plan(piece_at(cut.body, stretch), dice)
                clash = any(same_rows(cut.body, stretch, other) for _, other, _ in calls)
                if clash:
                    with self.assertRaises(Overlap):
                        cut.with_call("new", stretch, plan)
                    continue
                self.assertTrue(cut.with_call("new", stretch, plan) == Cut(cut.body, [("new", stretch, plan), *calls]))
                self.assertTrue(cut.with_call("new", stretch, plan).without("new") == cut)
                self.assertEqual(len(cut.with_call("new", stretch, plan)), len(cut) + 1)
            for k, (mark, stretch, plan) in enumerate(calls):
                rest = calls[:k] + calls[k + 1:]
                self.assertTrue(cut.without(mark) == Cut(cut.body, rest))
                self.assertEqual(cut.call(mark), (mark, stretch, plan))
                other = made_plan(piece_at(cut.body, stretch), dice)
                self.assertTrue(cut.with_plan(mark, other) == Cut(cut.body, [*rest, (mark, stretch, other)]))
            self.assertEqual(cut.calls(), calls)

    def test_with_plan_asks_whether_it_fits(self):
        cut = Cut(BODY, [("p", ((2, 0, 0), 1), LEAVE), ("q", ((0,), 1), NONE)])
        with self.assertRaises(Untold) as caught:
            cut.with_plan("p", NONE)
        self.assertEqual(caught.exception.way, "leave")
        with self.assertRaises(NoName) as caught:
            cut.with_plan("q", Plan({"x": "state", "y": "value"}, {}, []))
        self.assertEqual(caught.exception.name, "y")
        with self.assertRaises(NoMark):
            cut.with_plan("r", Plan({"q": "value"}, {}, []))

    def test_equal(self):
        cut = Cut(BODY, [("p", ((0,), 1), NONE)])
        for other in [Cut(BODY, []), Cut(BODY, [("q", ((0,), 1), NONE)]), Cut(BODY, [("p", ((0,), 2), NONE)]),
                      Cut(BODY, [("p", ((0,), 1), Plan({"x": "value"}, {}, []))]), Cut(Body([], ROWS), [("p", ((0,), 1), NONE)])]:
            self.assertFalse(cut == other)
            self.assertTrue(cut != other)
        self.assertTrue(cut == Cut(Body(["y"], ROWS), [["p", ((0,), 1), Plan({}, {"x": "none"}, ())]]))
        for value in odd_values():
            self.assertFalse(cut == value)

    def test_nothing_is_shared(self):
        call = ["p", ((0,), 1), NONE]
        calls = [call]
        cut = Cut(BODY, calls)
        call[0] = "q"
        calls.clear()
        cut.calls().clear()
        cut.marks().append("z")
        self.assertEqual([cut.calls(), cut.marks()], [[("p", ((0,), 1), NONE)], ["p"]])
        self.assertIsNot(cut.calls(), cut.calls())

    def test_any_order_makes_the_same_cut_and_none_makes_the_body(self):
        for cut in made_cuts(60):
            bare = Cut(cut.body, [])
            for calls in itertools.permutations(cut.calls()):
                held = bare
                for call in calls:
                    held = held.with_call(*call)
                self.assertTrue(held == cut)
            for mark in cut.marks():
                cut = cut.without(mark)
            self.assertTrue(cut == bare)

    def test_made_calls_against_the_rules(self):
        for k, body in enumerate(made_bodies(40)):
            dice = Dice(k)
            for _ in range(20):
                calls = []
                for _ in range(2 + dice.below(2)):
                    stretch = dice.one_of(stretches(body) + [((0,), 50), ((9, 0, 0), 1)])
                    plan = made_plan(piece_at(body, stretch), dice) if is_stretch(body, stretch) else NONE
                    calls.append((dice.one_of(["p", "q", "r", body.marks()[0]]), stretch, plan))
                self.assertEqual(self.told(body, calls), self.expected(body, calls))

    def told(self, body, calls):
        try:
            Cut(body, calls)
        except PieceError as error:
            return [type(error), *vars(error).values()]
        return None

    def expected(self, body, calls):
        for _, stretch, _ in calls:
            if stretch not in stretches(body):
                return [NoStretch, stretch]
        for k, (mark, _, _) in enumerate(calls):
            if mark in body or mark in [other for other, _, _ in calls[:k]]:
                return [BadMark, mark]
        for k, (mark, stretch, _) in enumerate(calls):
            if any(same_rows(body, stretch, other) for _, other, _ in calls[:k]):
                return [Overlap, mark]
        return None

    def test_each_method_stands_in_the_class(self):
        for name in ["body", "calls", "marks", "call", "with_call", "without", "with_plan", "__len__", "__eq__", "__contains__"]:
            self.assertIn(name, Cut.__dict__)


if __name__ == "__main__":
    unittest.main()
