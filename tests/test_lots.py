"""[80]: which calls go together, and calls that are joined and parted; [8], [10]."""

import itertools
import unittest

from cutoutpieces.bodies import Body
from cutoutpieces.cuts import Cut
from cutoutpieces.cutting import play_cut
from cutoutpieces.errors import BadMark, NoMark, NoName, NoStretch, PieceError, TooMany, Untold
from cutoutpieces.lots import alone, barring, greatest_lots, helping, joined, parted, raised, right_lots
from cutoutpieces.pieces import piece_at, stretches
from cutoutpieces.plans import Plan, needed_ways
from cutoutpieces.products import differing, is_same
from cutoutpieces.tables import table
from samples import Dice, made_bodies, made_cuts, made_plan, odd_values

FOUR = Body(["x"], [("strike", "p", "x"), ("do", "a", [], "x"), ("strike", "q", "x"), ("do", "d", ["x"], "")])
BOTH = Cut(FOUR, [("f", ((0,), 1), Plan({"x": "state"}, {}, [])), ("g", ((1,), 2), Plan({}, {}, []))])


def plain_body(many):
    """A Body of deeds, one behind another, x being set by the first and read by the last."""
    rows = [("do", "m" + letter, [], "") for letter in "abcdefgh"[:many]]
    return Body([], [("do", "a", [], "x"), *rows, ("do", "z", ["x"], "")])


def of_lot(cut, lot):
    """The Cut with just the calls of a lot."""
    return Cut(cut.body, [cut.calls()[number] for number in lot])


def lots_of(cut):
    return [list(lot) for many in range(len(cut) + 1) for lot in itertools.combinations(range(len(cut)), many)]


def many_cuts():
    """Cuts of two and three calls, most of them right alone."""
    found = [BOTH]
    for k, body in enumerate(made_bodies(400, ("x", "y"))):
        dice = Dice(k)
        calls = []
        for name, stretch in zip("hgf", stretches(body)[k % 3::4 + k % 5]):
            piece = piece_at(body, stretch)
            everything = {held: "state" for held in piece.names()}
            told = needed_ways(piece) + [way for way in ("fail", "shut") if dice.below(4)]
            plan = dice.one_of([Plan(everything, everything, told), Plan(everything, {}, told), Plan({}, everything, told),
                                made_plan(piece, dice)])
            try:
                calls = Cut(body, [*calls, (name, stretch, plan)]).calls()
            except PieceError:
                continue
        if len(calls) > 1:
            found.append(Cut(body, calls))
    return found


def straight_cuts(many):
    """Cuts of rows that strike, set and read x, one behind another, perhaps in a guard."""
    found = []
    for k in range(many):
        dice = Dice(k)
        kinds = [dice.one_of(["strike", "set", "read"]) for _ in range(4 + dice.below(3))]
        rows = [("strike", "m" + mark, "x") if word == "strike" else ("do", "m" + mark, [] if word == "set" else ["x"], "x" if word == "set" else "")
                for mark, word in zip("abcdefg", kinds)]
        gap = (0, 0) if dice.below(2) else ()
        body = Body(["x"], [("guard", rows, [("do", "z", ["x"], "")])] if gap else rows)
        at, calls = 0, []
        for mark in "hgf":
            size = 1 + dice.below(2)
            if at + size <= len(rows):
                ins, backs = [{"x": handing} if handing else {} for handing in (dice.one_of(["", "state"]), dice.one_of(["", "state", "value"]))]
                calls.append((mark, ((*gap, at), size), Plan(ins, backs, dice.one_of([[], ["fail"]]))))
            at += size + dice.below(2)
        found.append(Cut(body, calls))
    return found


class LotsTest(unittest.TestCase):
    def test_the_example(self):
        self.assertEqual([alone(BOTH), right_lots(BOTH), barring(BOTH)], [{"f": True, "g": True}, [[], [0], [1]], [(0, 1)]])
        self.assertEqual([greatest_lots(BOTH), helping(BOTH)], [[[0], [1]], []])

    def test_calls_that_bar_one_another_among_three(self):
        body = Body(["x"], [("do", "e", [], ""), *FOUR.rows()])
        h, f, g = ("h", ((0,), 1), Plan({}, {}, [])), ("f", ((1,), 1), Plan({"x": "state"}, {}, [])), ("g", ((2,), 2), Plan({}, {}, []))
        for calls in itertools.permutations([f, g, h]):
            cut = Cut(body, calls)
            self.assertEqual([alone(cut), barring(cut), helping(cut)], [{"f": True, "g": True, "h": True}, [(1, 2)], []])
            self.assertEqual(list(alone(cut)), ["f", "g", "h"])
            self.assertEqual(right_lots(cut), [[], [0], [0, 1], [0, 2], [1], [2]])
            self.assertEqual(greatest_lots(cut), [[0, 1], [0, 2]])

    def test_without_calls(self):
        for body in [FOUR, Body([], [])]:
            cut = Cut(body, [])
            self.assertEqual([alone(cut, most=1), right_lots(cut, most=1), greatest_lots(cut, most=1), barring(cut, most=1), helping(cut, most=1)],
                             [{}, [[]], [[]], [], []])

    def test_calls_that_are_wrong_alone_and_right_together(self):
        # The second call gets none of what the first does not hand back.
        rows = [("do", "a", [], "x"), ("do", "b", ["x"], "y"), ("strike", "s", "x"), ("do", "c", [], "")]
        calls = [("g", ((1,), 2), Plan({"x": "state"}, {"x": "state"}, [])), ("f", ((0,), 1), Plan({}, {}, []))]
        cut = Cut(Body([], rows), calls)
        self.assertEqual([alone(cut), helping(cut)], [{"f": False, "g": True}, []])
        # What the first call strikes in its frame alone, the second one does not get to see.
        rows = [("loop", "l", [("strike", "s", "x"), ("do", "a", [], ""), ("strike", "t", "x")])]
        told = ["fail"]
        calls = [("f", ((0, 0, 0), 1), Plan({"x": "state"}, {}, told)), ("g", ((0, 0, 2), 1), Plan({}, {}, told))]
        cut = Cut(Body(["x"], rows), calls)
        self.assertEqual([alone(cut), helping(cut), barring(cut)], [{"f": False, "g": True}, [(0, 1)], []])
        self.assertEqual([right_lots(cut), greatest_lots(cut)], [[[], [0, 1], [1]], [[0, 1]]])

    def test_numbers_are_by_place_and_keys_by_marks(self):
        body = plain_body(2)
        calls = [("c", ((0,), 1), Plan({}, {}, [])), ("d", ((1,), 1), Plan({}, {}, [])), ("b", ((3,), 1), Plan({"x": "value"}, {}, []))]
        cut = Cut(body, calls[::-1])
        self.assertEqual(list(alone(cut).items()), [("b", True), ("c", False), ("d", True)])
        self.assertEqual(right_lots(cut), [[], [1], [1, 2], [2]])
        self.assertEqual(greatest_lots(cut), [[1, 2]])
        self.assertEqual([barring(cut), helping(cut)], [[], []])

    def test_against_is_same(self):
        told = {"bars": 0, "helps": 0, "three": 0, "greatest": 0}
        for cut in many_cuts() + straight_cuts(900):
            right = [lot for lot in lots_of(cut) if is_same(of_lot(cut, lot))]
            self.assertEqual(right_lots(cut), sorted(right))
            greatest = [lot for lot in right if not any(set(lot) < set(other) for other in right)]
            self.assertEqual(greatest_lots(cut), sorted(greatest))
            singles = {mark: [number] in right for number, mark in enumerate(cut.marks())}
            self.assertEqual(list(alone(cut).items()), sorted(singles.items()))
            twos = list(itertools.combinations(range(len(cut)), 2))
            bars = [(i, k) for i, k in twos if [i] in right and [k] in right and [i, k] not in right]
            helps = [(i, k) for i, k in twos if [i, k] in right and not ([i] in right and [k] in right)]
            self.assertEqual([barring(cut), helping(cut)], [bars, helps])
            told["bars"] += len(bars)
            told["helps"] += len(helps)
            told["three"] += len(cut) == 3
            told["greatest"] += len(greatest) > 1
        self.assertTrue(min(told.values()) > 0 and told["three"] > 200 and told["helps"] > 5, told)

    def test_the_calls_given_in_another_order(self):
        # [10]
        for cut in many_cuts()[:40]:
            for calls in itertools.permutations(cut.calls()):
                other = Cut(cut.body, calls)
                self.assertEqual([alone(other), right_lots(other)], [alone(cut), right_lots(cut)])

    def test_state_by_state_or_not_at_all_goes_together(self):
        # [8]
        checked = 0
        for cut in many_cuts():
            body = cut.body
            strikes = any(body.row_at(at)[0] == "strike" for at in body.addresses())
            if strikes or body.names() != list(body.given):
                continue
            handings = {handing for _, _, plan in cut.calls() for handing in [*plan.ins().values(), *plan.backs().values()]}
            if handings <= {"state"}:
                right = [number for number, mark in enumerate(cut.marks()) if alone(cut)[mark]]
                checked += len(right) > 1
                self.assertTrue(right in right_lots(cut))
                self.assertEqual(barring(cut), [])
        self.assertTrue(checked > 3, checked)

    def test_most(self):
        checked = 0
        for cut in many_cuts():
            sizes = {}
            for lot in lots_of(cut):
                names = sorted({name for i in lot for name in piece_at(cut.body, cut.calls()[i][1]).names()})
                sizes[tuple(lot)] = [len(table(of_lot(cut, lot), name) or []) for name in names]
            if not all(all(held) for held in sizes.values()) or not all(sizes[(i,)] for i in range(len(cut))):
                continue
            largest = {many: max([max(sizes[lot]) for lot in sizes if len(lot) in many], default=0) for many in [(1,), (1, 2), (1, 2, 3)]}
            asks = [(alone, largest[(1,)]), (barring, largest[(1, 2)]), (helping, largest[(1, 2)]), (right_lots, largest[(1, 2, 3)]),
                    (greatest_lots, largest[(1, 2, 3)])]
            for ask, most in asks:
                self.assertEqual(ask(cut, most=most), ask(cut))
                if most > 1:
                    checked += 1
                    with self.assertRaises(TooMany) as caught:
                        ask(cut, most=most - 1)
                    self.assertEqual(caught.exception.most, most - 1)
        self.assertTrue(checked > 30, checked)

    def test_states_of_three_calls_are_not_needed_by_all(self):
        rows = [("catch", "a", "x", "put"), ("do", "b", [], "x"), ("if", "i", [("do", "c", [], "x")], [])]
        plans = [Plan({"x": "value"}, {}, []), Plan({}, {"x": "state"}, ["fail"]), Plan({"x": "value"}, {}, [])]
        cut = Cut(Body(["x"], rows), [(mark, (gap, 1), plan) for mark, gap, plan in zip("fgh", [(0,), (1,), (2, 0, 0)], plans)])
        sizes = {tuple(lot): len(table(of_lot(cut, lot), "x")) for lot in lots_of(cut) if lot}
        two, three = max(sizes[lot] for lot in sizes if len(lot) < 3), sizes[(0, 1, 2)]
        self.assertTrue(two < three, sizes)
        self.assertEqual([barring(cut, most=two), helping(cut, most=two)], [[], []])
        for ask in [right_lots, greatest_lots]:
            with self.assertRaises(TooMany):
                ask(cut, most=three - 1)
        self.assertEqual(right_lots(cut, most=three), sorted(lots_of(cut)))
        self.assertEqual(greatest_lots(cut, most=three), [[0, 1, 2]])

    def test_the_states_of_each_lot_are_needed(self):
        # What is not called hands functions of the body out: by fewer calls there are more states.
        rows = [("loop", "l", [("if", "i", [("catch", "a", "x", "put")], [("catch", "b", "x", "put")])])]
        state = Plan({"x": "state"}, {"x": "state"}, [])
        cut = Cut(Body(["x"], rows), [(mark, (gap, 1), state) for mark, gap in zip("fg", [(0, 0, 0, 0, 0), (0, 0, 0, 1, 0)])])
        sizes = {tuple(lot): len(table(of_lot(cut, lot), "x")) for lot in lots_of(cut) if lot}
        self.assertTrue(sizes[(0, 1)] < sizes[(0,)] == sizes[(1,)], sizes)
        self.assertEqual(greatest_lots(cut, most=sizes[(0,)]), [[0, 1]])
        for ask in [alone, right_lots, greatest_lots, barring, helping]:
            with self.assertRaises(TooMany) as caught:
                ask(cut, most=sizes[(0,)] - 1)
            self.assertEqual(caught.exception.most, sizes[(0,)] - 1)

    def test_asking_again(self):
        for cut in many_cuts()[:15]:
            first = (alone(cut), right_lots(cut), greatest_lots(cut), barring(cut), helping(cut))
            alone(cut).clear()
            right_lots(cut)[0].append(9)
            greatest_lots(cut)[0].append(9)
            calls = cut.calls()
            self.assertEqual((alone(cut), right_lots(cut), greatest_lots(cut), barring(cut), helping(cut)), first)
            self.assertEqual(cut.calls(), calls)


class OtherCutsTest(unittest.TestCase):
    def test_raised(self):
        plan = Plan({"x": "value", "y": "state"}, {"y": "value"}, ["fail"])
        body = Body(["y"], [("do", "a", ["x"], "y"), ("do", "b", ["x"], "")])
        cut = Cut(body, [("g", ((1,), 1), Plan({"x": "value"}, {}, ["shut"])), ("f", ((0,), 1), plan)])
        self.assertEqual(raised(cut), Cut(body, [("f", ((0,), 1), Plan({"x": "state", "y": "state"}, {"y": "state"}, ["fail"])),
                                                 ("g", ((1,), 1), Plan({"x": "state"}, {}, ["shut"]))]))
        self.assertEqual(cut.call("f")[2], plan)
        for cut in made_cuts(60):
            other = raised(cut)
            self.assertEqual([other.body, other.marks(), raised(other)], [cut.body, cut.marks(), other])
            for mark in cut.marks():
                plan, its = cut.call(mark)[2], other.call(mark)[2]
                self.assertTrue(plan.within(its))
                self.assertEqual([its.told, set(its.ins().values()) | set(its.backs().values()) | {"state"}], [plan.told, {"state"}])
                self.assertEqual([list(its.ins()), list(its.backs())], [list(plan.ins()), list(plan.backs())])
        self.assertEqual(raised(Cut(body, [])), Cut(body, []))

    def test_joined(self):
        body = plain_body(4)
        calls = [("f", ((0,), 2), Plan({}, {"x": "value"}, [])), ("g", ((2,), 1), Plan({}, {}, ["fail"])), ("h", ((4,), 2), Plan({"x": "value"}, {}, []))]
        cut, plan = Cut(body, calls), Plan({"x": "state"}, {"x": "state"}, ["shut"])
        self.assertEqual(joined(cut, "f", "g", plan), Cut(body, [("f", ((0,), 3), plan), calls[2]]))
        self.assertEqual(cut, Cut(body, calls))
        for one, other, stretch in [("g", "f", ((2,), 3)), ("g", "h", ((2,), 3)), ("f", "h", ((0,), 4)), ("h", "f", ((4,), 4)),
                                    ("f", "f", ((0,), 4)), ("g", "g", ((2,), 2))]:
            with self.assertRaises(NoStretch) as caught:
                joined(cut, one, other, Plan({"q": "value"}, {}, []))
            self.assertEqual(caught.exception.stretch, stretch)
        with self.assertRaises(NoName) as caught:
            joined(cut, "f", "g", Plan({"z": "value"}, {"q": "state"}, []))
        self.assertEqual(caught.exception.name, "q")

    def test_joined_within_lists(self):
        inner = [("do", "a", [], ""), ("do", "b", [], "x"), ("if", "i", [("leave",)], []), ("answer", "e", [])]
        body = Body([], [("loop", "l", inner), ("do", "c", ["x"], "")])
        none = Plan({}, {}, [])
        needed = Plan({}, {}, ["leave", "answer"])
        calls = [("f", ((0, 0, 0), 1), none), ("g", ((0, 0, 1), 1), none), ("h", ((0, 0, 2), 2), needed), ("k", ((1,), 1), none)]
        cut = Cut(body, calls)
        self.assertEqual(joined(cut, "f", "g", none), Cut(body, [("f", ((0, 0, 0), 2), none), *calls[2:]]))
        self.assertEqual(joined(cut, "g", "h", needed), Cut(body, [calls[0], ("g", ((0, 0, 1), 3), needed), calls[3]]))
        for plan, way in [(none, "answer"), (Plan({}, {}, ["answer", "again"]), "leave")]:
            with self.assertRaises(Untold) as caught:
                joined(cut, "g", "h", plan)
            self.assertEqual(caught.exception.way, way)
        # The indexes go on, but not in one list.
        with self.assertRaises(NoStretch) as caught:
            joined(cut, "h", "k", needed)
        self.assertEqual(caught.exception.stretch, ((0, 0, 2), 3))
        other = Body([], [("if", "i", [("do", "a", [], "")], [("do", "c", [], ""), ("do", "b", [], "")])])
        with self.assertRaises(NoStretch):
            joined(Cut(other, [("f", ((0, 0, 0), 1), none), ("g", ((0, 1, 1), 1), none)]), "f", "g", none)

    def test_no_mark_of_one_then_of_the_other(self):
        for thing in odd_values():
            if isinstance(thing, str) and thing in BOTH.marks():
                continue
            for one, other, first in [(thing, "f", thing), ("f", thing, thing), (thing, "q", thing), ("p", thing, "p")]:
                with self.assertRaises(NoMark) as caught:
                    joined(BOTH, one, other, Plan({"q": "value"}, {}, []))
                self.assertEqual(caught.exception.mark, first)
            with self.assertRaises(NoMark) as caught:
                parted(BOTH, thing, 0, "a", [])
            self.assertIs(caught.exception.mark, thing)

    def test_parted(self):
        body = plain_body(4)
        plan, one, other = Plan({"x": "value"}, {}, []), Plan({}, {}, ["fail"]), Plan({"x": "state"}, {}, ["shut"])
        calls = [("f", ((2,), 4), plan), ("g", ((0,), 1), Plan({}, {"x": "value"}, []))]
        cut = Cut(body, calls)
        for many in [1, 2, 3]:
            self.assertEqual(parted(cut, "f", many, "h", [one, other]),
                             Cut(body, [("f", ((2,), many), one), ("h", ((2 + many,), 4 - many), other), calls[1]]))
        for mark, many, stretch in [("f", 0, ((2,), 0)), ("f", 4, ((2,), 4)), ("f", 5, ((2,), 5)), ("f", -1, ((2,), -1)), ("g", 1, ((0,), 1)),
                                    ("f", 10 ** 30, ((2,), 10 ** 30))]:
            with self.assertRaises(NoStretch) as caught:
                parted(cut, mark, many, "a", [Plan({"q": "value"}, {}, []), other])
            self.assertEqual(caught.exception.stretch, stretch)
        # Then the errors of a Cut: marks ahead of plans, the first plan ahead of the second one.
        for mark in ["f", "g", "a", "ma", "z"]:
            with self.assertRaises(BadMark) as caught:
                parted(cut, "f", 1, mark, [Plan({"q": "value"}, {}, []), other])
            self.assertEqual(caught.exception.mark, mark)
        with self.assertRaises(NoName) as caught:
            parted(cut, "f", 3, "h", [Plan({"x": "value"}, {}, []), Plan({"q": "value"}, {}, [])])
        self.assertEqual(caught.exception.name, "x")
        with self.assertRaises(NoName) as caught:
            parted(cut, "f", 3, "h", [Plan({}, {}, []), Plan({"q": "value"}, {}, [])])
        self.assertEqual(caught.exception.name, "q")
        looped = Cut(Body([], [("loop", "l", [("do", "a", [], ""), ("if", "i", [("leave",)], []), ("again",)])]),
                     [("f", ((0, 0, 0), 3), Plan({}, {}, ["leave", "again"]))])
        told = parted(looped, "f", 2, "g", [Plan({}, {}, ["leave"]), Plan({}, {}, ["again"])])
        self.assertEqual(told.calls(), [("f", ((0, 0, 0), 2), Plan({}, {}, ["leave"])), ("g", ((0, 0, 2), 1), Plan({}, {}, ["again"]))])
        with self.assertRaises(Untold) as caught:
            parted(looped, "f", 2, "g", [Plan({}, {}, ["leave"]), Plan({}, {}, ["leave"])])
        self.assertEqual(caught.exception.way, "again")

    def test_parted_and_joined_again(self):
        checked = 0
        for k, cut in enumerate(made_cuts(120)):
            dice = Dice(k)
            for mark, (gap, many), plan in cut.calls():
                if many < 2:
                    continue
                first = 1 + dice.below(many - 1)
                pieces = [piece_at(cut.body, (gap, first)), piece_at(cut.body, ((*gap[:-1], gap[-1] + first), many - first))]
                two = parted(cut, mark, first, "zzz", [made_plan(piece, dice) for piece in pieces])
                self.assertEqual(joined(two, mark, "zzz", plan), cut)
                self.assertEqual([two.body, len(two), sorted([*cut.marks(), "zzz"])], [cut.body, len(cut) + 1, sorted(two.marks())])
                checked += 1
        self.assertTrue(checked > 30)

    def test_made_cuts_can_be_played(self):
        cut = joined(Cut(plain_body(1), [("f", ((0,), 1), Plan({}, {}, [])), ("g", ((1,), 1), Plan({}, {}, []))]), "f", "g", Plan({}, {"x": "value"}, []))
        self.assertEqual(differing(cut), [])
        self.assertEqual(play_cut(cut, ["told", "told"])[-1], ("do", "z", (0,)))
        other = parted(cut, "f", 1, "g", [Plan({}, {}, []), Plan({}, {}, [])])
        self.assertEqual([differing(other), play_cut(other, ["told", "told"])[-2:]], [["x"], [("lack", "z", "x"), ("end", "fail")]])


if __name__ == "__main__":
    unittest.main()
