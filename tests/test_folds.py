"""[70]: pieces with plans in all bodies of a kind; [6], [7], [9], [11]."""

import unittest

from cutoutpieces.bodies import Body
from cutoutpieces.cuts import Cut
from cutoutpieces.errors import NoLoop, NoName, TooMany, Untold
from cutoutpieces.folds import breaking, holds, holds_name
from cutoutpieces.foldtables import fold_table
from cutoutpieces.kinds import Kind, kind_of
from cutoutpieces.pieces import Piece, piece_at, stretches
from cutoutpieces.plans import Plan, all_pairs, needed_ways
from cutoutpieces.products import differing, is_same
from samples import Dice, made_bodies, made_folds, made_plan
from universal import Universal

TWO = Piece([("do", "a", [], "x"), ("do", "b", [], "")])
SET = Piece([("do", "a", [], "x")])
READ = Piece([("do", "a", ["x"], "")])
LOOK, PUT = ("catch", "l", "x", "look"), ("catch", "p", "x", "put")
AROUND = ["guard", "last", "loop"]


def x_kind(words, around=()):
    """The Kind in which x has some words."""
    return Kind({"x": words}, around)


def x_plan(handed_in, handed_back, told=()):
    """The Plan with one pair for x."""
    return Plan({"x": handed_in}, {"x": handed_back}, told)


def universal_bodies(piece, kind):
    """The bodies that do all that the kind has, none if no body of it has the piece."""
    try:
        return Universal(piece, kind).bodies()
    except NoLoop:
        return []


class FoldTest(unittest.TestCase):
    def need(self, piece, plan, kind, names):
        """What breaks, asked in three ways, and in bodies."""
        self.assertEqual(breaking(piece, plan, kind), names)
        self.assertIs(holds(piece, plan, kind), names == [])
        for name in piece.names():
            self.assertIs(holds_name(piece, plan, kind, name), name not in names)
        told = set()
        for body, stretch in universal_bodies(piece, kind):
            self.assertTrue(kind_of(body, stretch).within(kind))
            told |= set(differing(Cut(body, [("cut", stretch, plan)])))
        self.assertEqual(sorted(told), names)

    def test_the_example(self):
        back, guarded = Plan({}, {"x": "value"}, []), Kind({"x": ["read"]}, ["guard"])
        self.assertEqual([holds(TWO, back, Kind({"x": ["read", "unset"]}, [])), breaking(TWO, back, guarded)], [True, ["x"]])

    def test_what_is_read_behind(self):
        self.need(SET, x_plan("none", "none"), x_kind(["read"]), ["x"])
        self.need(SET, x_plan("none", "value"), x_kind(["read"]), [])
        self.need(SET, x_plan("none", "none"), x_kind([]), [])
        self.need(SET, x_plan("none", "none"), x_kind(["set", "unset"]), [])
        self.need(SET, x_plan("none", "none"), x_kind(["strike"]), ["x"])
        self.need(SET, x_plan("none", "none"), x_kind(["look"]), ["x"])
        self.need(SET, x_plan("none", "none"), x_kind(["put"]), [])
        self.need(SET, x_plan("none", "value"), x_kind(["put", "read"]), [])

    def test_what_is_read_within(self):
        self.need(READ, x_plan("none", "none"), x_kind([]), ["x"])
        self.need(READ, x_plan("value", "none"), x_kind([]), [])
        self.need(READ, x_plan("value", "none"), x_kind(["read", "set", "strike", "look", "put"], AROUND), ["x"])
        self.need(READ, x_plan("value", "none"), x_kind(["read", "set", "look", "put"], AROUND), [])
        self.need(READ, x_plan("value", "none"), x_kind(["unset"]), ["x"])
        self.need(READ, x_plan("state", "none"), x_kind(["read", "set", "strike", "look", "put", "unset"], AROUND), [])
        self.need(READ, x_plan("value", "value"), x_kind(["put"]), [])
        self.need(READ, x_plan("value", "value"), x_kind(["put", "read"]), ["x"])

    def test_around(self):
        last = Piece([("do", "a", [], "x"), ("yield", "b", [], "")])
        plan = x_plan("none", "value")
        self.need(TWO, plan, x_kind(["read"]), [])
        self.need(TWO, plan, x_kind(["read"], ["guard"]), ["x"])
        self.need(TWO, plan, x_kind(["read"], ["last"]), ["x"])
        self.need(TWO, plan, x_kind(["read"], ["loop"]), [])
        self.need(TWO, x_plan("state", "state", ["fail"]), x_kind(["read"], AROUND), [])
        self.need(last, x_plan("state", "state", ["fail"]), x_kind(["read"], ["guard", "loop"]), [])
        self.need(last, x_plan("state", "state", ["fail"]), x_kind(["read"], ["last"]), ["x"])
        self.need(last, x_plan("state", "state", ["fail", "shut"]), x_kind(["read"], AROUND), [])
        answer = Piece([("do", "a", [], "x"), ("answer", "b", [])])
        self.need(answer, x_plan("none", "none", ["answer"]), x_kind(["read"], ["guard"]), [])
        self.need(answer, x_plan("none", "none", ["answer"]), x_kind(["read"], ["guard", "loop"]), [])
        self.need(answer, x_plan("none", "none", ["answer"]), x_kind(["read"], ["last"]), ["x"])
        self.need(answer, x_plan("none", "value", ["answer"]), x_kind(["read"], ["last"]), [])

    def test_loops_come_again(self):
        piece = Piece([("if", "i", [("do", "a", ["x"], "")], [("do", "b", [], "x")])])
        self.need(piece, x_plan("value", "none"), x_kind([]), [])
        self.need(piece, x_plan("value", "none"), x_kind([], ["loop"]), ["x"])
        self.need(piece, x_plan("value", "value"), x_kind([], ["loop"]), [])
        self.need(piece, x_plan("value", "none"), x_kind([], ["guard", "last"]), [])

    def test_leaves_and_agains_without_a_loop(self):
        for row in [("leave",), ("again",)]:
            piece = Piece([("do", "a", [], "x"), row])
            plan = x_plan("none", "none", needed_ways(piece))
            # No body of these kinds has the piece.
            for around in [[], ["guard"], ["guard", "last"]]:
                self.need(piece, plan, x_kind(["read", "look", "strike", "unset"], around), [])
            self.need(piece, plan, x_kind(["read"], ["loop"]), ["x"])
            looped = Piece([("loop", "l", [("do", "a", [], "x"), row])])
            self.need(looped, x_plan("none", "none"), x_kind(["read"]), ["x"])
            self.need(looped, x_plan("none", "state", ["fail"]), x_kind(["read"]), ["x"])
            self.need(looped, x_plan("state", "state", ["fail"]), x_kind(["read"]), [])
            other = Piece([("if", "i", [("loop", "l", [row])], [row]), ("do", "a", [], "x")])
            self.need(other, x_plan("none", "none", needed_ways(other)), x_kind(["read"], ["guard"]), [])
            self.need(other, x_plan("none", "none", needed_ways(other)), x_kind(["read"], ["loop"]), ["x"])

    def test_functions_that_are_handed_out_within(self):
        piece = Piece([LOOK, ("do", "a", [], "")])
        self.need(piece, x_plan("none", "none"), x_kind([]), ["x"])
        self.need(piece, x_plan("state", "none"), x_kind([]), [])
        self.need(piece, x_plan("state", "state"), x_kind(["set"]), ["x"])
        piece = Piece([PUT, ("do", "a", [], "")])
        self.need(piece, x_plan("none", "none"), x_kind([]), [])
        self.need(piece, x_plan("none", "none"), x_kind(["read"]), ["x"])
        self.need(piece, x_plan("state", "state"), x_kind(["read"]), ["x"])
        self.need(piece, x_plan("state", "state"), x_kind(["set"]), [])
        # One that is over is put, and one that is over is looked at.
        piece = Piece([("if", "i", [LOOK], [PUT])])
        self.need(piece, x_plan("state", "state"), x_kind([]), [])
        self.need(piece, x_plan("state", "state"), x_kind([], ["loop"]), ["x"])

    def test_the_kind_may_have_other_names(self):
        kind = Kind({"q": ["read", "unset", "strike", "look"], "x": ["read"]}, [])
        self.assertEqual([breaking(SET, x_plan("none", "none"), kind), breaking(SET, x_plan("none", "value"), kind)], [["x"], []])
        self.assertEqual(breaking(SET, x_plan("none", "none"), Kind({"q": ["read", "look"]}, AROUND)), [])

    def test_several_names(self):
        piece = Piece([("do", "a", ["x", "y"], "z"), ("do", "b", ["z"], "y")])
        kind = Kind({"x": ["unset"], "y": ["read"], "z": ["set"]}, [])
        self.need(piece, Plan({"x": "state", "y": "value"}, {"y": "value"}, []), kind, [])
        self.need(piece, Plan({"x": "value", "y": "value"}, {"y": "value"}, []), kind, ["x"])
        self.need(piece, Plan({"x": "value"}, {}, []), kind, ["x", "y"])
        self.need(piece, Plan({}, {"z": "value"}, []), Kind({}, ["guard"]), ["x", "y"])
        # z is lacked in the cut where y is lacked in the body.
        piece = Piece([("do", "a", ["z", "y"], "")])
        self.need(piece, Plan({"y": "state"}, {}, []), Kind({"y": ["unset"]}, []), ["z"])

    def test_need_fit_comes_first(self):
        piece = Piece([("do", "a", ["y"], "x"), ("leave",)])
        asks = [breaking, holds, lambda *given, **more: holds_name(*given, "x", **more)]
        for ask in asks:
            for plan, name in [(Plan({"z": "value"}, {"b": "state"}, []), "b"), (Plan({}, {"z": "value"}, ["leave"]), "z")]:
                with self.assertRaises(NoName) as caught:
                    ask(piece, plan, Kind({}, []), most=1)
                self.assertEqual(caught.exception.name, name)
            with self.assertRaises(Untold) as caught:
                ask(piece, Plan({}, {}, ["again"]), Kind({}, ["loop"]), most=1)
            self.assertEqual(caught.exception.way, "leave")

    def test_in_bodies_that_do_all_that_the_kind_has(self):
        # [6]
        told = {True: 0, False: 0}
        for names, many in [(("x",), 260), (("x", "y"), 120)]:
            for piece, plan, kind in made_folds(many, names):
                self.need(piece, plan, kind, breaking(piece, plan, kind))
                told[holds(piece, plan, kind)] += 1
        self.assertTrue(min(told.values()) > 60, told)

    def test_what_holds_is_the_same_in_each_body_of_the_kind(self):
        # [6], [9]
        same = 0
        for k, body in enumerate(made_bodies(120, ("x", "y"))):
            dice = Dice(k)
            for stretch in stretches(body)[::4]:
                piece, kind = piece_at(body, stretch), kind_of(body, stretch)
                if len(piece) > 8:
                    continue
                plan = made_plan(piece, dice)
                broken = breaking(piece, plan, kind)
                self.assertTrue(set(differing(Cut(body, [("cut", stretch, plan)]))) <= set(broken))
                if not broken:
                    same += 1
                    self.assertTrue(is_same(Cut(body, [("cut", stretch, plan)])))
        self.assertTrue(same > 50)

    def test_greater_kinds_break_more(self):
        # [9]
        for piece, plan, kind in made_folds(120):
            held = set(breaking(piece, plan, kind))
            for name in piece.names():
                for word in ["look", "put", "read", "set", "strike", "unset"]:
                    greater = kind.with_words(name, [*kind.of(name), word])
                    self.assertTrue(held <= set(breaking(piece, plan, greater)))
            for word in AROUND:
                self.assertTrue(held <= set(breaking(piece, plan, kind.with_around([*kind.around, word]))))

    def test_name_by_name(self):
        # [7]
        for piece, plan, kind in made_folds(60):
            for name in piece.names():
                right = holds_name(piece, plan, kind, name)
                for other in piece.names():
                    if other == name:
                        continue
                    for pair in all_pairs()[::3]:
                        self.assertIs(holds_name(piece, plan.with_pair(other, pair), kind, name), right)
                alone = Plan({name: plan[name][0]}, {name: plan[name][1]}, plan.told)
                self.assertIs(holds_name(piece, alone, kind, name), right)

    def test_names_exchanged(self):
        # [11]
        names = {"x": "y", "y": "x"}
        for piece, plan, kind in made_folds(80):
            body = Body([], [("loop", "zzz", piece.rows())]).renamed(
                {name: names[name] for name in piece.names()}, {mark: mark[::-1] for mark in [*piece.marks(), "zzz"]})
            other = Piece(body.row_at((0,))[2])
            other_plan = Plan({names[name]: held for name, held in plan.ins().items()},
                              {names[name]: held for name, held in plan.backs().items()}, plan.told)
            other_kind = Kind({names[name]: kind.of(name) for name in kind.names()}, kind.around)
            self.assertEqual(breaking(other, other_plan, other_kind), sorted(names[name] for name in breaking(piece, plan, kind)))

    def test_most(self):
        checked = 0
        for piece, plan, kind in made_folds(200):
            sizes = {name: len(fold_table(piece, plan, kind, name)) for name in piece.names() if holds_name(piece, plan, kind, name)}
            for name, size in sizes.items():
                self.assertIs(holds_name(piece, plan, kind, name, most=size), True)
                if size > 1:
                    with self.assertRaises(TooMany) as caught:
                        holds_name(piece, plan, kind, name, most=size - 1)
                    self.assertEqual(caught.exception.most, size - 1)
            if len(sizes) < len(piece.names()) or not sizes:
                continue
            checked += 1
            most = max(sizes.values())
            self.assertEqual([breaking(piece, plan, kind, most=most), holds(piece, plan, kind, most=most)], [[], True])
            if most > 1:
                for ask in [breaking, holds]:
                    with self.assertRaises(TooMany) as caught:
                        ask(piece, plan, kind, most=most - 1)
                    self.assertEqual(caught.exception.most, most - 1)
        self.assertTrue(checked > 15)

    def test_more_states_of_another_name(self):
        piece = Piece([PUT, ("do", "a", [], "x"), ("do", "b", ["y"], "")])
        plan, kind = Plan({"x": "state"}, {}, []), Kind({"x": ["put", "set", "unset"]}, ["loop", "guard"])
        size = len(fold_table(piece, plan, kind, "x"))
        self.assertTrue(size > 50)
        self.assertEqual(breaking(piece, plan, kind, most=size), ["y"])
        with self.assertRaises(TooMany):
            breaking(piece, plan, kind, most=size - 1)
        self.assertIs(holds(piece, plan, kind, most=size), False)

    def test_asking_again_and_one_behind_another(self):
        folds = made_folds(60)
        first = [breaking(*fold) for fold in folds]
        self.assertEqual([breaking(*fold) for fold in reversed(folds)], first[::-1])
        for fold, names in zip(folds, first):
            piece, plan, kind = fold
            held = (piece.rows(), plan.ins(), plan.backs(), kind.words(), kind.around)
            breaking(*fold).append("q")
            holds(*fold)
            self.assertEqual(breaking(*fold), names)
            self.assertEqual((piece.rows(), plan.ins(), plan.backs(), kind.words(), kind.around), held)


if __name__ == "__main__":
    unittest.main()
