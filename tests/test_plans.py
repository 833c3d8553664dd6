"""[42]: plans, what they weigh, and whether they fit."""

import copy
import unittest

from cutoutpieces.bodies import Body
from cutoutpieces.errors import NoName, Untold, Wrong
from cutoutpieces.kinds import kind_of
from cutoutpieces.pieces import Piece, piece_at, stretches
from cutoutpieces.plans import Plan, all_pairs, need_fit, needed_ways, pair_weight, weight
from samples import Dice, HANDINGS, made_bodies, made_plan, nested, odd_values

PAIRS = [
    ("none", "none"), ("none", "value"), ("value", "none"), ("none", "state"), ("value", "value"), ("state", "none"),
    ("value", "state"), ("state", "value"), ("state", "state")]
WAYS = ["again", "answer", "fail", "leave", "shut"]


def is_plain(thing):
    """Whether a dict has only names and handings, by a list of those that the odd values have."""
    return isinstance(thing, dict) and all(
        isinstance(key, str) and key in ("x", "a") and isinstance(held, str) and held in HANDINGS
        for key, held in thing.items())


def are_ways(thing):
    """Whether a value is a list or a tuple of ways other than end."""
    return isinstance(thing, (list, tuple)) and all(isinstance(way, str) and way in WAYS for way in thing)


class PlanTest(unittest.TestCase):
    def test_the_example(self):
        looped = Body(["x"], [("loop", "more", [("do", "a", ["x"], "y"), ("if", "big", [("leave",)], [])]),
                              ("do", "b", ["y"], "")])
        piece = piece_at(looped, ((0, 0, 0), 2))
        self.assertEqual(
            [len(piece), piece.names(), piece.ways(), needed_ways(piece)],
            [3, ["x", "y"], ["end", "fail", "leave"], ["leave"]])
        kind = kind_of(looped, ((0, 0, 0), 2))
        self.assertEqual([kind.words(), kind.around, len(stretches(looped))], [{"y": ["read", "unset"]}, ("loop",), 7])
        plan = Plan({"x": "value"}, {"y": "state"}, ["leave"])
        self.assertEqual(
            [plan["x"], plan["z"], plan.told, plan.within(plan.with_pair("x", ("state", "none")))],
            [("value", "none"), ("none", "none"), ("leave",), True])

    def test_parts(self):
        plan = Plan({"y": "value", "b": "state", "q": "none"}, {"y": "none", "a": "state"}, ("shut", "fail", "shut"))
        self.assertEqual(plan.names(), ["a", "b", "y"])
        self.assertEqual(list(plan.ins().items()), [("b", "state"), ("y", "value")])
        self.assertEqual(list(plan.backs().items()), [("a", "state")])
        self.assertEqual(plan.told, ("fail", "shut"))
        self.assertIsInstance(plan.told, tuple)
        self.assertEqual([plan[name] for name in "abqyz"], [
            ("none", "state"), ("state", "none"), ("none", "none"), ("value", "none"), ("none", "none")])
        self.assertEqual(Plan({}, {}, WAYS).told, ("again", "answer", "fail", "leave", "shut"))
        empty = Plan({}, {}, [])
        self.assertEqual([empty.names(), empty.ins(), empty.backs(), empty.told, weight(empty)], [[], {}, {}, (), 0])

    def test_each_pair(self):
        for pair in PAIRS:
            plan = Plan({"x": pair[0]}, {"x": pair[1]}, [])
            self.assertEqual(plan["x"], pair)
            self.assertIsInstance(plan["x"], tuple)
            self.assertEqual(plan.names(), [] if pair == ("none", "none") else ["x"])
            self.assertEqual(plan.ins(), {} if pair[0] == "none" else {"x": pair[0]})
            self.assertEqual(plan.backs(), {} if pair[1] == "none" else {"x": pair[1]})
            self.assertEqual(Plan({}, {}, []).with_pair("x", pair), plan)

    def test_with_pair_and_with_told(self):
        plan = Plan({"x": "value", "y": "state"}, {"x": "state"}, ["fail"])
        self.assertEqual(plan.with_pair("x", ("none", "value")), Plan({"y": "state"}, {"x": "value"}, ["fail"]))
        self.assertEqual(plan.with_pair("x", ("none", "none")), Plan({"y": "state"}, {}, ["fail"]))
        self.assertEqual(plan.with_pair("z", ("state", "none")),
                         Plan({"x": "value", "y": "state", "z": "state"}, {"x": "state"}, ["fail"]))
        self.assertEqual(plan.with_told(["shut", "shut", "again"]).told, ("again", "shut"))
        self.assertEqual(plan.with_told(()), Plan({"x": "value", "y": "state"}, {"x": "state"}, ()))
        self.assertEqual(plan, Plan({"x": "value", "y": "state"}, {"x": "state"}, ["fail"]))

    def test_within(self):
        for pair in PAIRS:
            for other in PAIRS:
                least = all(HANDINGS.index(mine) <= HANDINGS.index(its) for mine, its in zip(pair, other))
                one = Plan({"x": pair[0]}, {"x": pair[1], "y": "value"}, ["fail"])
                more = Plan({"x": other[0]}, {"x": other[1], "y": "state"}, ["shut", "fail"])
                self.assertIs(one.within(more), least)
                self.assertIs(one.within(one), True)
                self.assertIs(more.within(one), False)
        self.assertIs(Plan({}, {}, ["fail"]).within(Plan({"x": "state"}, {}, ["shut"])), False)
        self.assertIs(Plan({}, {}, []).within(Plan({}, {}, [])), True)
        self.assertIs(Plan({"x": "value"}, {}, []).within(Plan({"y": "state"}, {}, [])), False)

    def test_equal(self):
        plan = Plan({"x": "value", "y": "none"}, {"z": "none"}, ["fail", "shut"])
        self.assertTrue(plan == Plan({"x": "value"}, {}, ("shut", "fail", "fail")))
        self.assertTrue(Plan({"x": "value", "a": "state"}, {}, []) == Plan({"a": "state", "x": "value"}, {}, []))
        for other in [Plan({"x": "state"}, {}, ["fail", "shut"]), Plan({}, {"x": "value"}, ["fail", "shut"]),
                      Plan({"x": "value"}, {}, ["fail"]), Plan({"x": "value", "y": "value"}, {}, ["fail", "shut"]), None, 0]:
            self.assertFalse(plan == other)
            self.assertTrue(plan != other)
        self.assertFalse(Plan({"x": "value"}, {"y": "value"}, []) == Plan({"x": "value"}, {"y": "state"}, []))
        self.assertFalse(Plan({"x": "value"}, {"y": "value"}, []) == Plan({"x": "value"}, {}, []))
        for value in odd_values():
            self.assertFalse(Plan({"x": "state"}, {}, []) == value)

    def test_no_name(self):
        plan = Plan({"x": "value"}, {}, [])
        for value in odd_values():
            if isinstance(value, str) and value.isalpha() and value.islower() and len(value) < 9:
                self.assertIsInstance(plan[value], tuple)
                continue
            with self.assertRaises(NoName) as caught:
                plan[value]
            self.assertIs(caught.exception.name, value)

    def test_wrong(self):
        for value in odd_values() + [["fail"], ("fail", "fail"), ["end"], ["fail", "end"], "fail"]:
            for place, good in enumerate([is_plain(value), is_plain(value), are_ways(value)]):
                given = [{}, {}, []]
                given[place] = value
                if good:
                    Plan(*given)
                    continue
                with self.assertRaises(Wrong, msg=repr(value)[:80]) as caught:
                    Plan(*given)
                self.assertEqual(caught.exception.place, place)
        for given, place in [(({"x": "some"}, None, None), 0), (({}, {"x": 1}, None), 1), (({}, {}, ["end"]), 2),
                             (({}, {}, "fail"), 2), (({"abcdefghi": "value"}, {}, []), 0), (({"": "none"}, {}, []), 0),
                             (({}, {"x": True}, []), 1), (({}, {}, nested(29, "fail", lambda thing: [thing])), 2),
                             (({}, {}, [["fail"]]), 2), (({1: "value"}, {}, []), 0), (([("x", "value")], {}, []), 0)]:
            with self.assertRaises(Wrong) as caught:
                Plan(*given)
            self.assertEqual(caught.exception.place, place)

    def test_nothing_is_shared(self):
        ins, backs, told = {"y": "value", "x": "state"}, {"x": "value"}, ["shut", "fail"]
        held = copy.deepcopy([ins, backs, told])
        plan = Plan(ins, backs, told)
        self.assertEqual([ins, backs, told], held)
        self.assertEqual(list(ins), ["y", "x"])
        ins["z"], backs["z"] = "value", "state"
        told.append("leave")
        self.assertEqual(plan, Plan(*held))
        plan.ins()["a"] = "value"
        plan.backs().clear()
        plan.names().append("q")
        self.assertEqual(plan, Plan(*held))
        self.assertEqual([plan.ins(), plan.backs(), plan.names()], [*held[:2], ["x", "y"]])
        other = ["shut"]
        following = plan.with_told(other)
        other.append("fail")
        self.assertEqual(following.told, ("shut",))

    def test_weights(self):
        self.assertEqual(all_pairs(), PAIRS)
        all_pairs().clear()
        self.assertEqual([pair_weight(pair) for pair in all_pairs()], [0, 1, 1, 2, 2, 2, 3, 3, 4])
        self.assertEqual(weight(Plan({"x": "value", "y": "state"}, {"y": "state", "z": "value"}, WAYS)), 6)


class FitTest(unittest.TestCase):
    def test_needed_ways(self):
        for rows, ways in [
                ([("do", "a", [], "")], []), ([("yield", "a", [], "")], []), ([("leave",)], ["leave"]), ([("again",)], ["again"]),
                ([("answer", "a", ["x"])], ["answer"]), ([("loop", "a", [("leave",)])], []),
                ([("loop", "a", [("answer", "b", [])])], ["answer"]),
                ([("if", "a", [("leave",)], [("if", "b", [("again",)], [("answer", "c", [])])])], ["again", "answer", "leave"]),
                ([("last", [("leave",)], [("again",)])], ["again"]), ([("guard", [], [("leave",)])], [])]:
            self.assertEqual(needed_ways(Piece(rows)), ways)

    def test_fits(self):
        piece = Piece([("do", "a", ["y"], "x"), ("if", "b", [("leave",)], [("again",)])])
        for plan in [Plan({}, {}, ["again", "leave"]), Plan({"x": "value", "q": "none"}, {"y": "state"}, WAYS)]:
            self.assertIsNone(need_fit(piece, plan))

    def test_names_come_ahead_of_ways_the_least_first(self):
        piece = Piece([("do", "a", ["y"], "x"), ("if", "b", [("leave",)], [("answer", "c", [])])])
        for plan, name in [(Plan({"z": "value"}, {"w": "state"}, []), "w"), (Plan({"a": "state"}, {"w": "value"}, []), "a"),
                           (Plan({"x": "value"}, {"z": "value"}, WAYS), "z")]:
            with self.assertRaises(NoName) as caught:
                need_fit(piece, plan)
            self.assertEqual(caught.exception.name, name)
        for told, way in [([], "answer"), (["answer"], "leave"), (["leave", "fail"], "answer"), (["again", "shut"], "answer")]:
            with self.assertRaises(Untold) as caught:
                need_fit(piece, Plan({"x": "state"}, {}, told))
            self.assertEqual(caught.exception.way, way)

    def test_made_plans(self):
        for k, body in enumerate(made_bodies(60)):
            for stretch in stretches(body):
                piece = piece_at(body, stretch)
                plan = made_plan(piece, Dice(k))
                self.assertIsNone(need_fit(piece, plan))
                self.assertEqual(Plan(plan.ins(), plan.backs(), plan.told), plan)
                self.assertEqual(weight(plan), sum(pair_weight(plan[name]) for name in piece.names()))
                ways = [way for way in piece.ways() if way in ("again", "answer", "leave")]
                self.assertEqual(needed_ways(piece), ways)
                if ways:
                    with self.assertRaises(Untold):
                        need_fit(piece, plan.with_told(["fail", "shut"]))

    def test_each_method_stands_in_the_class(self):
        for name in ["names", "ins", "backs", "told", "with_pair", "with_told", "within", "__eq__", "__getitem__"]:
            self.assertIn(name, Plan.__dict__)


if __name__ == "__main__":
    unittest.main()
