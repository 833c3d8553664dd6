"""[76]: what may be told, least plans, pieces that can never be cut, and what parts lesser plans."""

import itertools
import unittest

from cutoutpieces.bodies import Body
from cutoutpieces.cuts import Cut
from cutoutpieces.cutting import unlike
from cutoutpieces.errors import NoName, NoStretch, TooMany, Untold
from cutoutpieces.folds import holds
from cutoutpieces.foldtables import fold_table
from cutoutpieces.kinds import Kind, kind_of
from cutoutpieces.lean import is_lean, parted_body
from cutoutpieces.leasts import (
    against, against_in, bars, least_plans, least_plans_in, lesser_plans, never, never_in, tellings)
from cutoutpieces.pieces import Piece, is_stretch, piece_at, stretches
from cutoutpieces.plans import Plan, all_pairs, needed_ways
from cutoutpieces.products import is_same, parting
from cutoutpieces.tables import table
from samples import KIND_WORDS, Dice, made_bodies, made_folds, made_plan, odd_values

SOME = Piece([("if", "big", [("do", "a", [], "x")], [])])
TWO = Piece([("do", "a", [], "x"), ("do", "b", [], "")])
AROUND = ["guard", "last", "loop"]


def free_cut(body, stretch, plan):
    return Cut(body, [("zzzzzzzz", stretch, plan)])


def all_plans(piece, told):
    """All plans of a piece that tell these ways."""
    found = []
    for chosen in itertools.product(all_pairs(), repeat=len(piece.names())):
        pairs = dict(zip(piece.names(), chosen))
        found.append(Plan({name: pairs[name][0] for name in pairs}, {name: pairs[name][1] for name in pairs}, told))
    return found


def right_by_told(piece, is_right):
    """The dict from the tuples of all tellings to the lists of the right plans, the whole of the plans being tried."""
    ways = [way for way in ("fail", "shut") if way in piece.ways()]
    found = {}
    for many in range(len(ways) + 1):
        for more in itertools.combinations(ways, many):
            told = tuple(sorted([*needed_ways(piece), *more]))
            found[told] = [plan for plan in all_plans(piece, told) if is_right(plan)]
    return found


def leasts_among(piece, found):
    """The least plans among the right ones, in the order of what they tell."""
    least = []
    fewest = min((len(told) for told in found if found[told]), default=0)
    for told in sorted(found):
        if found[told] and len(told) == fewest:
            pairs = {name: min((plan[name] for plan in found[told]), key=all_pairs().index) for name in piece.names()}
            least += [plan for plan in found[told] if all(plan[name] == pairs[name] for name in pairs)]
    return least


class TellingsTest(unittest.TestCase):
    def test_by_hand(self):
        self.assertEqual(tellings(SOME), [[], ["fail"]])
        self.assertEqual(tellings(Piece([("catch", "a", "x", "put")])), [[]])
        self.assertEqual(tellings(Piece([("yield", "a", [], "")])), [[], ["fail"], ["shut"], ["fail", "shut"]])
        self.assertEqual(tellings(Piece([("leave",)])), [["leave"]])
        piece = Piece([("if", "i", [("again",)], [("yield", "y", [], "")]), ("if", "j", [("leave",)], []), ("answer", "b", [])])
        needed = ["again", "answer", "leave"]
        self.assertEqual(tellings(piece), [needed, ["again", "answer", "fail", "leave"], ["again", "answer", "leave", "shut"],
                                           ["again", "answer", "fail", "leave", "shut"]])
        piece = Piece([("last", [("yield", "y", [], "")], [("answer", "b", [])])])
        self.assertEqual(tellings(piece), [["answer"]])
        piece = Piece([("guard", [("yield", "y", [], "")], [])])
        self.assertEqual(tellings(piece), [[], ["shut"]])

    def test_order(self):
        for piece, _, _ in made_folds(100):
            told = tellings(piece)
            self.assertEqual(told, sorted(told, key=lambda ways: (len(ways), ways)))
            self.assertEqual(len({tuple(ways) for ways in told}), 2 ** len({"fail", "shut"} & set(piece.ways())))
            for ways in told:
                self.assertEqual(ways, sorted(set(ways)))
                self.assertTrue(set(needed_ways(piece)) <= set(ways) <= set(piece.ways()))
            told[0].append("q")
            self.assertNotEqual(tellings(piece), told)


class LeastPlansTest(unittest.TestCase):
    def test_the_example(self):
        plain = Kind({"x": ["read"]}, [])
        self.assertEqual([tellings(SOME), least_plans(SOME, plain)[0].backs(), never(SOME, Kind({"x": ["look"]}, []))],
                         [[[], ["fail"]], {"x": "value"}, False])
        self.assertIs(never(TWO, Kind({"x": ["look"]}, [])), True)

    def test_by_hand(self):
        self.assertEqual(least_plans(TWO, Kind({}, [])), [Plan({}, {}, [])])
        self.assertEqual(least_plans(TWO, Kind({"x": ["read"]}, [])), [Plan({}, {"x": "value"}, [])])
        # Whether b fails must be told, and then x may be unset if a has failed.
        self.assertEqual(least_plans(TWO, Kind({"x": ["read"]}, ["guard"])), [Plan({"x": "value"}, {"x": "value"}, ["fail"])])
        self.assertEqual(least_plans(TWO, Kind({"x": ["read", "unset"]}, ["guard"])), [Plan({"x": "state"}, {"x": "state"}, ["fail"])])
        self.assertEqual(least_plans(TWO, Kind({"x": ["look"]}, [])), [])
        piece = Piece([("yield", "a", [], "x"), ("yield", "b", [], "")])
        self.assertEqual(least_plans(piece, Kind({"x": ["read"]}, ["last"])), [Plan({"x": "value"}, {"x": "value"}, ["fail", "shut"])])
        self.assertEqual(least_plans(Piece([("do", "a", [], "")]), Kind({}, [])), [Plan({}, {}, [])])
        self.assertEqual(least_plans(Piece([("leave",)]), Kind({}, ["loop"])), [Plan({}, {}, ["leave"])])

    def test_against_all_plans(self):
        told = {True: 0, False: 0}
        for names, many in [(("x",), 110), (("x", "y"), 30)]:
            for piece, _, kind in made_folds(many, names):
                found = right_by_told(piece, lambda plan: holds(piece, plan, kind))
                self.assertEqual(least_plans(piece, kind), leasts_among(piece, found))
                nothing = not any(found.values())
                self.assertIs(never(piece, kind), nothing)
                self.need_bars(piece, kind, found)
                told[nothing] += 1
        self.assertTrue(min(told.values()) > 5, told)

    def need_bars(self, piece, kind, found):
        """bars against all right plans: a name has no right pair if no plan with pairs of its own holds for it."""
        told = bars(piece, kind)
        if any(found.values()):
            self.assertIsNone(told)
            return
        self.assertEqual(list(told), sorted(tuple(ways) for ways in tellings(piece)))
        for ways in told:
            without = []
            for name in piece.names():
                plans = [Plan({name: pair[0]}, {name: pair[1]}, ways) for pair in all_pairs()]
                if not any(fold_table(piece, plan, kind, name) for plan in plans):
                    without.append(name)
            self.assertEqual(told[ways], without)
            self.assertTrue(without)

    def test_in_a_body_against_all_plans(self):
        told = {True: 0, False: 0}
        for names, many, step in [(("x",), 90, 6), (("x", "y"), 30, 12)]:
            for k, body in enumerate(made_bodies(many, names)):
                for stretch in stretches(body)[k % step::step]:
                    piece = piece_at(body, stretch)
                    found = right_by_told(piece, lambda plan: is_same(free_cut(body, stretch, plan)))
                    self.assertEqual(least_plans_in(body, stretch), leasts_among(piece, found))
                    nothing = not any(found.values())
                    self.assertIs(never_in(body, stretch), nothing)
                    told[nothing] += 1
        self.assertTrue(min(told.values()) > 3, told)

    def test_a_least_plan_tells_as_few_ways_as_any(self):
        # By telling less, more is handed.
        piece = Piece([("guard", [("do", "a", [], "x")], []), ("do", "b", [], "")])
        for plan in least_plans(piece, Kind({"x": ["read"]}, ["guard"])):
            self.assertIs(holds(piece, plan, Kind({"x": ["read"]}, ["guard"])), True)
            self.assertEqual(plan.told, ("fail",))

    def test_bars_by_hand(self):
        self.assertIsNone(bars(SOME, Kind({"x": ["look"]}, [])))
        self.assertEqual(bars(TWO, Kind({"x": ["look"]}, [])), {(): ["x"], ("fail",): ["x"]})
        piece = Piece([("do", "a", ["y"], "x"), ("yield", "b", [], "z"), ("leave",)])
        told = bars(piece, Kind({"x": ["look"], "y": ["unset"]}, ["loop"]))
        self.assertEqual(list(told), [("fail", "leave"), ("fail", "leave", "shut"), ("leave",), ("leave", "shut")])
        self.assertEqual(told[("leave",)], ["x"])
        told = bars(piece, Kind({"x": ["look"], "z": ["read"]}, ["guard", "loop"]))
        self.assertEqual([told[("leave",)], told[("fail", "leave")]], [["x"], ["x"]])
        # For each telling another name has no right pair, or it is another one with less told.
        piece = Piece([("do", "a", [], "x"), ("do", "b", [], "y"), ("do", "c", [], "")])
        told = bars(piece, Kind({"x": ["read"], "y": ["look"]}, ["guard"]))
        self.assertEqual(told, {(): ["x", "y"], ("fail",): ["y"]})

    def test_never_in_is_less_than_never(self):
        for k, body in enumerate(made_bodies(50, ("x",))):
            for stretch in stretches(body)[k % 4::8]:
                if never_in(body, stretch):
                    self.assertIs(never(piece_at(body, stretch), kind_of(body, stretch)), True)

    def test_what_is_no_stretch(self):
        body = Body(["x"], [("do", "a", [], "x"), ("do", "b", ["x"], "")])
        plan = Plan({"q": "value"}, {}, [])
        for thing in odd_values() + [((0,), 3), ((2,), 1), [(0,), 1]]:
            if is_stretch(body, thing):
                continue
            for ask in [least_plans_in, never_in, lambda *given: against_in(*given, plan)]:
                with self.assertRaises(NoStretch) as caught:
                    ask(body, thing)
                self.assertIs(caught.exception.stretch, thing)

    def sizes_of(self, piece, kind, told):
        """The dict from the names to the lists of the numbers of states by their right pairs, in order, 0 for a wrong one."""
        found = {}
        for name in piece.names():
            tables = [fold_table(piece, Plan({name: pair[0]}, {name: pair[1]}, told), kind, name) for pair in all_pairs()]
            found[name] = [len(states or []) for states in tables]
        return found

    def test_most(self):
        checked = skipped = 0
        for piece, _, kind in made_folds(300):
            told = tellings(piece)[0]
            sizes = self.sizes_of(piece, kind, told)
            if not sizes or not all(any(held) for held in sizes.values()):
                continue
            first = max(next(size for size in held if size) for held in sizes.values())
            least = max(min(size for size in held if size) for held in sizes.values())
            # The first pairs are right, so that no states of wrong ones may be too many.
            if all(held[0] for held in sizes.values()):
                self.assertEqual(len(least_plans(piece, kind, most=first)), 1)
                self.assertIs(never(piece, kind, most=first), False)
                self.assertIsNone(bars(piece, kind, most=10000))
                skipped += max(max(held) for held in sizes.values()) > first
            if first > 1:
                checked += 1
                with self.assertRaises(TooMany) as caught:
                    least_plans(piece, kind, most=first - 1)
                self.assertEqual(caught.exception.most, first - 1)
            others = [self.sizes_of(piece, kind, ways) for ways in tellings(piece)]
            if all(all(all(held) for held in other.values()) for other in others):
                least = min(max(min(held) for held in other.values()) for other in others)
                self.assertIs(never(piece, kind, most=least), False)
                self.assertIsNone(bars(piece, kind, most=least))
                if least > 1:
                    for ask in [never, bars]:
                        with self.assertRaises(TooMany) as caught:
                            ask(piece, kind, most=least - 1)
                        self.assertEqual(caught.exception.most, least - 1)
        self.assertTrue(checked > 50 and skipped > 0, (checked, skipped))

    def test_most_of_names_that_are_not_needed(self):
        # Whatever is told, x has no right pair; y has many states.
        piece = Piece([("do", "a", [], "x"), ("catch", "c", "y", "put"), ("do", "b", ["y"], "y")])
        kind = Kind({"x": ["look"], "y": ["unset", "set"]}, [])
        self.assertIs(never(piece, kind, most=60), True)
        self.assertEqual(least_plans(piece, kind, most=60), [])
        # But bars needs them.
        self.assertEqual(set(map(tuple, bars(piece, kind).values())), {("x",)})
        sizes = [self.sizes_of(piece, kind, told) for told in tellings(piece)]
        least = max(min(size for size in held["y"] if size) for held in sizes)
        with self.assertRaises(TooMany):
            bars(piece, kind, most=least - 1)

    def test_most_in_a_body(self):
        body = Body([], [("do", "a", [], "x"), ("do", "b", ["x"], ""), ("do", "c", [], "")])
        self.assertEqual(least_plans_in(body, ((0,), 1)), [Plan({}, {"x": "value"}, [])])
        size = len(table(free_cut(body, ((0,), 1), Plan({}, {"x": "value"}, [])), "x"))
        self.assertEqual(len(least_plans_in(body, ((0,), 1), most=size)), 1)
        self.assertIs(never_in(body, ((0,), 1), most=size), False)
        for ask in [least_plans_in, never_in]:
            with self.assertRaises(TooMany) as caught:
                ask(body, ((0,), 1), most=size - 1)
            self.assertEqual(caught.exception.most, size - 1)


class AgainstTest(unittest.TestCase):
    def test_lesser_plans_by_hand(self):
        piece = Piece([("do", "a", ["x"], "y"), ("yield", "b", ["z"], "x"), ("leave",)])
        plan = Plan({"x": "state", "z": "value"}, {"y": "state", "x": "value"}, ["shut", "leave", "fail", "again"])
        told = lesser_plans(piece, plan)
        self.assertEqual([what for what, _ in told], [("back", "x"), ("back", "y"), ("in", "x"), ("in", "z"),
                                                      ("told", "again"), ("told", "fail"), ("told", "shut")])
        others = dict(told)
        self.assertEqual(others[("back", "x")], Plan({"x": "state", "z": "value"}, {"y": "state"}, plan.told))
        self.assertEqual(others[("back", "y")], Plan({"x": "state", "z": "value"}, {"y": "value", "x": "value"}, plan.told))
        self.assertEqual(others[("in", "x")], Plan({"x": "value", "z": "value"}, {"y": "state", "x": "value"}, plan.told))
        self.assertEqual(others[("in", "z")], Plan({"x": "state"}, {"y": "state", "x": "value"}, plan.told))
        self.assertEqual(others[("told", "fail")], plan.with_told(["again", "leave", "shut"]))
        self.assertEqual(others[("told", "again")], plan.with_told(["fail", "leave", "shut"]))
        self.assertEqual(lesser_plans(piece, Plan({}, {}, ["leave"])), [])

    def test_lesser_plans_are_less(self):
        for k, (piece, plan, _) in enumerate(made_folds(100)):
            told = lesser_plans(piece, plan)
            self.assertEqual([what for what, _ in told], sorted({what for what, _ in told}))
            handings = len(plan.ins()) + len(plan.backs())
            self.assertEqual(len(told), handings + len(set(plan.told) - set(needed_ways(piece))))
            for _, less in told:
                self.assertTrue(less.within(plan) and less != plan)
                for other in all_plans(piece, plan.told)[k::7]:
                    # Nothing stands between.
                    self.assertFalse(less.within(other) and other.within(plan) and other not in (less, plan))

    def test_need_fit(self):
        body = Body(["x"], [("loop", "l", [("do", "a", ["x"], "y"), ("leave",)])])
        piece, kind = piece_at(body, ((0, 0, 0), 2)), Kind({}, ["loop"])
        for plan, error, held in [(Plan({"z": "value"}, {"q": "state"}, []), NoName, "q"), (Plan({"x": "value"}, {}, ["fail"]), Untold, "leave")]:
            asks = [lambda: lesser_plans(piece, plan), lambda: against(piece, plan, kind, most=1),
                    lambda: against_in(body, ((0, 0, 0), 2), plan, most=1)]
            for ask in asks:
                with self.assertRaises(error) as caught:
                    ask()
                self.assertEqual([*vars(caught.exception).values()], [held])

    def test_against_by_hand(self):
        kind, plan = Kind({"x": ["read"]}, ["guard"]), Plan({"x": "value"}, {"x": "value"}, ["fail"])
        told = against(TWO, plan, kind)
        self.assertEqual(list(told), [("back", "x"), ("in", "x"), ("told", "fail")])
        for what, less in lesser_plans(TWO, plan):
            body, stretch, words = told[what]
            self.assertIs(is_lean(body, stretch, less), True)
            self.assertIsNotNone(unlike(free_cut(body, stretch, less), words))
        self.assertEqual(against(TWO, Plan({"x": "state"}, {"x": "state"}, ["fail"]), kind)[("in", "x")], None)
        body = Body(["x"], [("guard", TWO.rows(), []), ("do", "c", ["x"], "")])
        told = against_in(body, ((0, 0, 0), 2), plan)
        self.assertEqual([list(told), told[("told", "fail")], told[("in", "x")]],
                         [[("back", "x"), ("in", "x"), ("told", "fail")], ["told", "fail"], ["fail"]])
        self.assertEqual(against_in(body, ((0, 0, 0), 2), Plan({}, {}, [])), {})

    def test_against_parted_body(self):
        # Each part that is left out of a least plan is parted; with other plans some are not.
        told = {True: 0, False: 0}
        for piece, plan, kind in made_folds(140, ("x", "y")):
            for held in [plan, *least_plans(piece, kind)]:
                found = against(piece, held, kind)
                self.assertEqual(list(found), [what for what, _ in lesser_plans(piece, held)])
                for what, less in lesser_plans(piece, held):
                    self.assertEqual(found[what], parted_body(piece, less, kind))
                    told[found[what] is None] += 1
                    if held is not plan and what[0] == "told":
                        self.assertIsNotNone(found[what])
        self.assertTrue(min(told.values()) > 50, told)

    def test_against_in_parting(self):
        told = {True: 0, False: 0}
        for k, body in enumerate(made_bodies(70, ("x", "y"))):
            dice = Dice(k)
            for stretch in stretches(body)[k % 7::9]:
                piece = piece_at(body, stretch)
                for plan in [made_plan(piece, dice), *least_plans_in(body, stretch)]:
                    found = against_in(body, stretch, plan)
                    self.assertEqual(list(found), [what for what, _ in lesser_plans(piece, plan)])
                    for what, less in lesser_plans(piece, plan):
                        words = parting(free_cut(body, stretch, less))
                        self.assertEqual(None if words is None else len(words), None if found[what] is None else len(found[what]))
                        if words is not None:
                            self.assertIsNotNone(unlike(free_cut(body, stretch, less), found[what]))
                        told[words is None] += 1
        self.assertTrue(min(told.values()) > 50, told)

    def test_most(self):
        plan, kind = Plan({"x": "state"}, {"x": "state"}, ["fail"]), Kind({"x": ["read"]}, ["guard"])
        sizes = [len(fold_table(TWO, less, kind, "x") or []) for _, less in lesser_plans(TWO, plan)]
        self.assertEqual(len(against(TWO, plan, kind, most=1000)), 3)
        with self.assertRaises(TooMany) as caught:
            against(TWO, plan, kind, most=max(sizes) - 1)
        self.assertEqual(caught.exception.most, max(sizes) - 1)
        body, stretch = Body(["x"], [("guard", TWO.rows(), []), ("do", "c", ["x"], "")]), ((0, 0, 0), 2)
        sizes = [len(table(free_cut(body, stretch, less), "x") or []) for _, less in lesser_plans(TWO, plan)]
        self.assertEqual(len(against_in(body, stretch, plan, most=max(sizes))), 3)
        with self.assertRaises(TooMany):
            against_in(body, stretch, plan, most=max(sizes) - 1)

    def test_asking_again(self):
        for piece, plan, kind in made_folds(25):
            first = (tellings(piece), lesser_plans(piece, plan), least_plans(piece, kind), bars(piece, kind), against(piece, plan, kind))
            tellings(piece).clear()
            lesser_plans(piece, plan).clear()
            least_plans(piece, kind).clear()
            against(piece, plan, kind).clear()
            self.assertEqual((tellings(piece), lesser_plans(piece, plan), least_plans(piece, kind), bars(piece, kind), against(piece, plan, kind)), first)

    def test_kinds_with_all_words(self):
        kind = Kind({"x": KIND_WORDS, "q": ["read"]}, AROUND)
        self.assertIs(never(SOME, kind), True)
        self.assertEqual(bars(SOME, kind), {(): ["x"], ("fail",): ["x"]})


if __name__ == "__main__":
    unittest.main()
