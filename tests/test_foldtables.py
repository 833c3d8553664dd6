"""[71]: tables of the states of a piece in all bodies of a kind."""

import unittest

from cutoutpieces.cuts import Cut
from cutoutpieces.errors import NoName, TooMany, Untold
from cutoutpieces.folds import holds_name
from cutoutpieces.foldtables import fold_table, is_fold_table
from cutoutpieces.kinds import Kind
from cutoutpieces.pieces import Piece
from cutoutpieces.plans import Plan
from cutoutpieces.tables import table
from samples import Dice, made_folds, odd_values
from test_folds import universal_bodies
from universal import place_of

TWO = Piece([("do", "a", [], "x"), ("do", "b", [], "")])
BACK = Plan({}, {"x": "value"}, [])
READ = Kind({"x": ["read", "unset"]}, [])
EQUAL, MORE, LESS = ("=", False, False), ("+", False, False), ("-", False, False)


def state(place, names, puts, *cells):
    """A state; others is False, and cells that are left out are ()."""
    return (place, names, puts, (*cells, *[()] * (3 - len(cells)), False))


def changed(held, at, value):
    """A state with another part."""
    return (*held[:at], value, *held[at + 1:])


class FoldTableTest(unittest.TestCase):
    def test_an_example(self):
        states = [
            state("early", (), (), EQUAL), state("early", ("x",), (), EQUAL), state("late", ("x",), (), EQUAL),
            state("over", (), (), EQUAL), state("over", ("x",), (), MORE), state("over", ("x",), (), LESS),
            state("over", ("x",), (), EQUAL),
            state(((0,), ()), (), (), EQUAL, EQUAL), state(((0,), ()), ("x",), (), EQUAL, LESS),
            state(((1,), ()), ("x",), (), MORE, EQUAL), state(((1,), ()), ("x",), (), LESS, EQUAL)]
        self.assertEqual(fold_table(TWO, BACK, READ, "x"), states)
        self.assertIsNone(fold_table(TWO, BACK, READ.with_around(["guard"]), "x"))
        self.assertIs(is_fold_table(TWO, BACK, READ, "x", states), True)
        self.assertIs(is_fold_table(TWO, BACK, READ.with_around(["guard"]), "x", states), False)

    def test_where_it_begins(self):
        piece = Piece([("do", "a", ["x", "y"], "z")])
        plan = Plan({"x": "state", "y": "value"}, {"z": "value"}, [])
        states = fold_table(piece, plan, Kind({"x": ["unset"], "z": ["unset", "read"]}, []), "z")
        begun = [held[1] for held in states if held[0] == "early"]
        self.assertEqual(begun, [("x", "y"), ("x", "y", "z"), ("y",), ("y", "z")])
        states = fold_table(piece, plan, Kind({"x": ["read"], "q": ["unset"]}, []), "z")
        self.assertEqual([held[1] for held in states if held[0] == "early"], [("x", "y", "z")])

    def test_what_the_rows_of_the_body_do(self):
        piece = Piece([("do", "a", ["x"], "")])
        self.assertEqual(fold_table(piece, Plan({"x": "value"}, {}, []), Kind({}, []), "x"), [
            state("early", ("x",), (), EQUAL), state("late", ("x",), (), EQUAL), state("over", ("x",), (), EQUAL),
            state(((0,), ()), ("x",), (), EQUAL, EQUAL)])
        plan = Plan({"x": "state"}, {}, [])
        for words, names, puts, cells in [
                (["strike"], {("x",), ()}, {()}, {EQUAL}), (["set"], {("x",)}, {()}, {EQUAL}), (["read"], {("x",)}, {()}, {EQUAL}),
                (["put"], {("x",)}, {(), ("x",)}, {EQUAL, ("=", False, True)}),
                (["look"], {("x",)}, {()}, {EQUAL, ("=", True, False)}),
                (["look", "put", "unset"], {("x",), ()}, {(), ("x",)}, {EQUAL, ("=", False, True), ("=", True, False), ("=", True, True)}),
                (["unset"], {("x",), ()}, {()}, {EQUAL})]:
            states = fold_table(piece, plan, Kind({"x": words}, ["guard"]), "x")
            for place in ["early", "late", "over"]:
                there = [held for held in states if held[0] == place]
                self.assertEqual({held[1] for held in there}, names)
                self.assertEqual({held[2] for held in there}, puts)
                self.assertEqual({held[3][0] for held in there}, cells)

    def test_where_the_way_leads_on(self):
        rows = {"end": ("do", "e", [], ""), "answer": ("answer", "b", []), "leave": ("leave",), "again": ("again",)}
        for way, row in rows.items():
            for around in [[], ["guard"], ["last"], ["loop"], ["guard", "loop"], ["last", "loop"], ["guard", "last"]]:
                piece = Piece([("strike", "a", "x"), row])
                plan = Plan({"x": "state"}, {"x": "state"}, ["again", "answer", "fail", "leave"])
                kind = Kind({}, around)
                states = fold_table(piece, plan, kind, "x")
                within = [held for held in states if isinstance(held[0], tuple)]
                behind = {held[0] for held in states if held[1] == () and isinstance(held[0], str)}
                if way in ("leave", "again") and "loop" not in around:
                    self.assertEqual([within, behind], [[], set()])
                    continue
                on = "early" if "loop" in around else "late"
                if way == "answer" and "last" not in around:
                    on = "over"
                self.assertEqual(behind, {on, "over"})
                fails = "guard" in around or "last" in around
                failed = {held[0] for held in states if held[1] == ("x",) and isinstance(held[0], str)}
                expected = {"early", "over", *([] if not fails or "loop" in around else ["late"])}
                self.assertEqual(failed, expected)

    def test_of_bodies_that_do_all_that_the_kind_has(self):
        checked = 0
        for names, many in [(("x",), 260), (("x", "y"), 140)]:
            for piece, plan, kind in made_folds(many, names):
                bodies = universal_bodies(piece, kind)
                for name in piece.names():
                    states = fold_table(piece, plan, kind, name)
                    if not bodies:
                        continue
                    tables = [table(Cut(body, [("cut", stretch, plan)]), name) for body, stretch in bodies]
                    self.assertIs(states is None, None in tables)
                    if states is None:
                        continue
                    checked += 1
                    told = {(place_of(body, stretch, held[0]), *held[1:])
                            for (body, stretch), found in zip(bodies, tables) for held in found}
                    self.assertEqual(set(states), told)
        self.assertTrue(checked > 80)

    def test_order_and_closedness(self):
        seen = 0
        for k, (piece, plan, kind) in enumerate(made_folds(160)):
            dice = Dice(k)
            for name in piece.names():
                states = fold_table(piece, plan, kind, name)
                self.assertIs(states is None, not holds_name(piece, plan, kind, name))
                if states is None or len(states) > 60:
                    continue
                seen += 1
                around = [held for held in states if isinstance(held[0], str)]
                within = [held for held in states if not isinstance(held[0], str)]
                self.assertEqual(states, sorted(set(around)) + sorted(set(within)))
                self.assertIs(is_fold_table(piece, plan, kind, name, states), True)
                mixed = [*states, *[dice.one_of(states) for _ in range(3)]]
                mixed.sort(key=lambda held: str(held)[::-1])
                self.assertIs(is_fold_table(piece, plan, kind, name, mixed), True)
                self.assertIs(is_fold_table(piece, plan, kind, name, tuple(states)), False)
                for at in range(len(states)):
                    self.assertIs(is_fold_table(piece, plan, kind, name, states[:at] + states[at + 1:]), False)
        self.assertTrue(seen > 30)

    def test_more_states_than_needed(self):
        base = fold_table(TWO, BACK, READ, "x")
        for more, good in [
                ([state("over", (), ("x",), EQUAL)], True), ([state("over", (), ("x",), ("=", False, True))], False),
                ([state("over", (), ("x",), ("=", False, True)), state("over", ("x",), ("x",), ("=", False, True))], True),
                ([state("late", (), (), EQUAL)], True), ([state("late", ("x",), (), MORE)], False),
                ([state("early", ("x",), (), LESS)], False), ([state("over", ("x",), (), ("-", True, False))], False),
                ([state("over", ("x",), (), EQUAL, (), ("+", False, False))], True),
                ([state(((1,), ()), (), (), EQUAL, EQUAL)], False)]:
            self.assertIs(is_fold_table(TWO, BACK, READ, "x", [*more, *base]), good, more)

    def test_a_strike_of_what_is_unset_changes_nothing(self):
        piece = Piece([("do", "a", ["x"], "")])
        plan, kind = Plan({"x": "state"}, {}, []), Kind({"x": ["strike"]}, [])
        base = fold_table(piece, plan, kind, "x")
        watched = ("=", True, False)
        more = [state(place, (), (), EQUAL, (), watched) for place in ("late", "over")]
        self.assertIs(is_fold_table(piece, plan, kind, "x", [*base, *more]), True)
        # Of what is set, the elder frame has another value.
        more += [state(place, ("x",), (), EQUAL, (), watched) for place in ("late", "over")]
        self.assertIs(is_fold_table(piece, plan, kind, "x", [*base, *more]), False)

    def test_reads_and_strikes_of_the_body_are_unlike(self):
        for word, signs in [("read", "="), ("strike", "="), ("set", "=+-"), ("put", "=+-"), ("unset", "=+-")]:
            kind = Kind({"x": [word]}, [])
            piece = Piece([("do", "a", ["x"], "")])
            plan = Plan({"x": "state"}, {}, [])
            base = fold_table(piece, plan, kind, "x")
            for sign in "=+-":
                more = [state("late", ("x",), (), (sign, False, False)), state("over", ("x",), (), (sign, False, False))]
                if word == "put":
                    more += [state(place, ("x",), ("x",), (held, False, True)) for place in ("late", "over") for held in (sign, "=")]
                self.assertIs(is_fold_table(piece, plan, kind, "x", [*base, *more]), sign in signs)

    def test_places(self):
        piece = Piece([("last", [("do", "a", [], "")], [("do", "b", [], ""), ("loop", "l", [("do", "c", ["x"], "")])]), ("do", "d", [], "")])
        plan, kind = Plan({"x": "state"}, {"x": "state"}, ["fail"]), Kind({}, ["guard"])
        base = fold_table(piece, plan, kind, "x")
        held = state(((0, 1, 0), ("answer",)), ("x",), (), EQUAL, EQUAL)
        for way in ["again", "answer", "end", "fail", "leave", "shut"]:
            # Each way out is one of the form, as if the piece stood in a loop.
            more = [changed(held, 0, ((0, *at), (way,))) for at in [(1, 0), (1, 1), (1, 1, 0, 0)]]
            self.assertIs(is_fold_table(piece, plan, kind, "x", [*base, *more]), True)
            for at in [1, 2]:
                rest = [other for other in base if other not in more]
                self.assertIs(is_fold_table(piece, plan, kind, "x", [*rest, *more[:at], *more[at + 1:]]), False)
        for place in [((0, 1, 0), ()), ((0, 1, 0), ("end", "end")), ((0, 0, 0), ("end",)), ((0,), ()), ((2,), ()), ((), ("end",)), ((), ()),
                      "Early", "", None, ("early",), ["early"], ((0, 1, 0), ["end"]), ((0, 1, 0), ("ends",)), ((0, 1, False), ("end",)),
                      [(0, 1, 0), ("end",)], ((0, 1, 0),), (0, 1, 0), ((0, 1, 0), ("end",), 0), ((0, 1, 0), "end")]:
            self.assertIs(is_fold_table(piece, plan, kind, "x", [*base, changed(held, 0, place)]), False)

    def test_frames_stand_just_within_the_piece(self):
        base = fold_table(TWO, BACK, READ, "x")
        for more in [state("over", ("x",), (), EQUAL, EQUAL), state("late", ("x",), (), EQUAL, EQUAL), state(((1,), ()), ("x",), (), EQUAL)]:
            self.assertIs(is_fold_table(TWO, BACK, READ, "x", [*base, more]), False)

    def test_any_value(self):
        base = fold_table(TWO, BACK, READ, "x")
        closed = [*base, state("late", (), (), EQUAL), state(((0,), ()), ("x",), (), LESS, EQUAL)]
        for value in odd_values():
            self.assertIs(is_fold_table(TWO, BACK, READ, "x", value), False)
            self.assertIs(is_fold_table(TWO, BACK, READ, "x", [*base, value]), False)
            for held in [base[2], base[-1]]:
                for at in range(4):
                    other = changed(held, at, value)
                    if repr(other) in [repr(good) for good in closed]:
                        continue
                    self.assertIs(is_fold_table(TWO, BACK, READ, "x", [*base, other]), False, repr(value)[:80])
        numbers = [changed(held, 3, (*held[3][:3], 0)) for held in base]
        self.assertEqual(numbers, base)
        self.assertIs(is_fold_table(TWO, BACK, READ, "x", numbers), False)

    def test_tables_of_others(self):
        base = fold_table(TWO, BACK, READ, "x")
        other = Piece([("do", "a", [], "y"), ("do", "b", [], "")])
        self.assertIs(is_fold_table(other, Plan({}, {"y": "value"}, []), Kind({"y": ["read", "unset"]}, []), "y", base), False)
        self.assertIs(is_fold_table(Piece([("do", "a", [], "x")]), BACK, READ, "x", base), False)
        self.assertIs(is_fold_table(TWO, BACK, Kind({"x": ["read", "put", "unset"]}, []), "x", base), False)
        self.assertIs(is_fold_table(TWO, BACK, Kind({"x": ["read"]}, []), "x", base), True)
        self.assertIs(is_fold_table(TWO, BACK.with_pair("x", ("state", "value")), READ, "x", base), False)

    def test_need_fit_comes_first(self):
        piece = Piece([("do", "a", ["y"], "x"), ("leave",)])
        for ask in [lambda plan: fold_table(piece, plan, READ, "x", most=1),
                    lambda plan: is_fold_table(piece, plan, READ, "x", None)]:
            with self.assertRaises(NoName) as caught:
                ask(Plan({"q": "value"}, {"b": "value"}, []))
            self.assertEqual(caught.exception.name, "b")
            with self.assertRaises(Untold) as caught:
                ask(Plan({}, {}, []))
            self.assertEqual(caught.exception.way, "leave")

    def test_most(self):
        for piece, plan, kind in made_folds(100):
            for name in piece.names():
                states = fold_table(piece, plan, kind, name)
                if states is None:
                    continue
                self.assertEqual(fold_table(piece, plan, kind, name, most=len(states)), states)
                if len(states) > 1:
                    with self.assertRaises(TooMany) as caught:
                        fold_table(piece, plan, kind, name, most=len(states) - 1)
                    self.assertEqual(caught.exception.most, len(states) - 1)

    def test_tables_are_new(self):
        fold_table(TWO, BACK, READ, "x").clear()
        given = fold_table(TWO, BACK, READ, "x")
        self.assertEqual(len(given), 11)
        held = list(given)
        is_fold_table(TWO, BACK, READ, "x", given)
        self.assertEqual(given, held)


if __name__ == "__main__":
    unittest.main()
