"""[75]: right pairs of handings; [7], [9], [11]."""

import unittest

from cutoutpieces.bodies import Body
from cutoutpieces.cuts import Cut
from cutoutpieces.errors import NoName, NoStretch, TooMany, Untold
from cutoutpieces.folds import holds, holds_name
from cutoutpieces.foldtables import fold_table
from cutoutpieces.kinds import Kind, kind_of
from cutoutpieces.pieces import Piece, is_stretch, piece_at, stretches
from cutoutpieces.plans import Plan, all_pairs, needed_ways
from cutoutpieces.products import differing, is_same
from cutoutpieces.rights import pairs, pairs_in, rights, rights_in
from cutoutpieces.tables import table
from samples import KIND_WORDS, Dice, made_bodies, made_folds, odd_values

SOME = Piece([("if", "big", [("do", "a", [], "x")], [])])
AROUND = ["guard", "last", "loop"]
ALL = all_pairs()
NOT_BACK_BY_VALUE = [pair for pair in ALL if pair != ("none", "value")]

# Tuples (given, rows, stretch, told, rights) of pieces with many states.
LARGE = [
    (["na", "nv"], [("loop", "ol", [("guard", [
        ("do", "oaa", [], "na"), ("do", "oab", [], "nv"), ("catch", "pk", "na", "put"),
        ("if", "pa", [("strike", "pay", "nv")], [("again",)])], [("catch", "oca", "na", "put")])]), ("do", "cellwhhl", [], "")],
     ((0, 0, 0, 0, 2), 2), ["again"],
     {"na": NOT_BACK_BY_VALUE, "nv": [("value", "none"), ("state", "none"), ("value", "state"), ("state", "state")]}),
    (["na"], [("loop", "ol", [("guard", [
        ("catch", "pk", "na", "put"), ("if", "pa", [("yield", "pay", [], "")], [("answer", "pan", [])]), ("strike", "pb", "nf")],
        [("do", "oca", [], "nf")])]), ("do", "cut", [], "")],
     ((0, 0, 0, 0, 0), 3), ["answer", "fail", "shut"],
     {"na": NOT_BACK_BY_VALUE, "nf": [("state", "state")]}),
    (["v"], [("loop", "ol", [
        ("do", "oaa", [], "q"), ("catch", "pk", "v", "put"), ("if", "pa", [("do", "pay", [], "q")], [("again",)]),
        ("yield", "pb", [], "v"), ("catch", "oba", "v", "put")]), ("do", "diiz", [], "")],
     ((0, 0, 1), 3), ["again", "fail", "shut"],
     {"q": NOT_BACK_BY_VALUE, "v": NOT_BACK_BY_VALUE}),
]


def told_for(piece, dice):
    """Told ways that fit a piece, some perhaps twice, as a list or a tuple."""
    told = needed_ways(piece) + [way for way in ("shut", "fail", "shut") if dice.below(2)]
    return tuple(told) if dice.below(2) else told


def one_pair(name, pair, told):
    return Plan({name: pair[0]}, {name: pair[1]}, told)


def free_cut(body, stretch, plan):
    return Cut(body, [("zzzzzzzz", stretch, plan)])


class RightsTest(unittest.TestCase):
    def test_the_example(self):
        plain = Kind({"x": ["read"]}, [])
        self.assertEqual([pairs(SOME, plain, [], "x")[0], pairs(SOME, Kind({"x": ["read", "unset"]}, []), [], "x")],
                         [("value", "value"), [("state", "state")]])

    def test_by_hand(self):
        read = Piece([("do", "a", ["x"], "y")])
        self.assertEqual(pairs(read, Kind({}, []), [], "x"), [pair for pair in all_pairs() if pair[0] != "none"])
        self.assertEqual(pairs(read, Kind({"x": ["unset"]}, []), [], "x")[0], ("state", "none"))
        self.assertEqual(pairs(read, Kind({"y": ["read"]}, []), [], "y"), [pair for pair in all_pairs() if pair[1] != "none"])
        self.assertEqual(rights(read, Kind({"y": ["look"]}, []), []),
                         {"x": pairs(read, Kind({}, []), [], "x"), "y": [pair for pair in all_pairs() if pair[1] != "none"]})
        body = Body(["x"], [("do", "a", ["x"], "y"), ("do", "b", ["y"], "")])
        self.assertEqual(pairs_in(body, ((0,), 1), [], "y"), [pair for pair in all_pairs() if pair[0] != "value" and pair[1] != "none"])
        self.assertEqual(pairs_in(body, ((1,), 1), (), "y"), [pair for pair in all_pairs() if pair[0] != "none"])
        self.assertEqual(rights(Piece([("do", "a", [], "")]), Kind({"x": KIND_WORDS}, AROUND), []), {})
        self.assertEqual(rights_in(Body(["x"], [("do", "a", [], ""), ("do", "b", ["x"], "")]), ((0,), 1), ["fail", "shut"]), {})

    def test_pairs_against_holds_name(self):
        # [7]: whatever the pairs of the other names are.
        told_right = told_wrong = 0
        for k, (piece, _, kind) in enumerate(made_folds(130, ("x", "y"))):
            dice = Dice(k)
            told = told_for(piece, dice)
            everything = rights(piece, kind, told)
            self.assertEqual(list(everything), piece.names())
            for name in piece.names():
                expected = []
                for pair in all_pairs():
                    plan = one_pair(name, pair, told)
                    for other in piece.names():
                        if other != name:
                            plan = plan.with_pair(other, dice.one_of(all_pairs()))
                    if holds_name(piece, plan, kind, name):
                        expected.append(pair)
                self.assertEqual(pairs(piece, kind, told, name), expected)
                self.assertEqual(everything[name], expected)
                told_right += len(expected)
                told_wrong += 9 - len(expected)
        self.assertTrue(min(told_right, told_wrong) > 300, (told_right, told_wrong))

    def test_pairs_in_against_differing(self):
        told_right = told_wrong = 0
        for k, body in enumerate(made_bodies(60, ("x", "y"))):
            dice = Dice(k)
            for stretch in stretches(body)[k % 3::7]:
                piece = piece_at(body, stretch)
                told = told_for(piece, dice)
                everything = rights_in(body, stretch, told)
                self.assertEqual(list(everything), piece.names())
                for name in piece.names():
                    expected = []
                    for pair in all_pairs():
                        plan = one_pair(name, pair, told)
                        for other in piece.names():
                            if other != name:
                                plan = plan.with_pair(other, dice.one_of(all_pairs()))
                        if name not in differing(free_cut(body, stretch, plan)):
                            expected.append(pair)
                    self.assertEqual(pairs_in(body, stretch, told, name), expected)
                    self.assertEqual(everything[name], expected)
                    told_right += len(expected)
                    told_wrong += 9 - len(expected)
        self.assertTrue(min(told_right, told_wrong) > 300, (told_right, told_wrong))

    def test_the_right_plans_are_all_choices_of_right_pairs(self):
        # [7]
        for k, (piece, _, kind) in enumerate(made_folds(60, ("x", "y"))):
            if piece.names() != ["x", "y"]:
                continue
            told = needed_ways(piece) + ["fail"]
            right = rights(piece, kind, told)
            for pair in all_pairs()[k % 2::2]:
                for other in all_pairs()[k % 3::3]:
                    plan = Plan({"x": pair[0], "y": other[0]}, {"x": pair[1], "y": other[1]}, told)
                    self.assertIs(holds(piece, plan, kind), pair in right["x"] and other in right["y"])

    def test_right_for_a_kind_is_right_for_lesser_kinds_and_bodies(self):
        # [9], [6]
        for piece, plan, kind in made_folds(60, ("x",)):
            for name in piece.names():
                held = pairs(piece, kind, plan.told, name)
                for word in kind.of(name):
                    less = kind.with_words(name, [other for other in kind.of(name) if other != word])
                    self.assertTrue(set(held) <= set(pairs(piece, less, plan.told, name)))
                for word in kind.around:
                    less = kind.with_around([other for other in kind.around if other != word])
                    self.assertTrue(set(held) <= set(pairs(piece, less, plan.told, name)))
        checked = 0
        for k, body in enumerate(made_bodies(40, ("x", "y"))):
            for stretch in stretches(body)[k % 5::9]:
                piece = piece_at(body, stretch)
                told = needed_ways(piece)
                here, everywhere = rights_in(body, stretch, told), rights(piece, kind_of(body, stretch), told)
                for name in piece.names():
                    checked += 1
                    self.assertTrue(set(everywhere[name]) <= set(here[name]))
        self.assertTrue(checked > 60)

    def test_told_ways_repeated(self):
        piece = Piece([("do", "a", [], "x"), ("yield", "y", [], "")])
        kind = Kind({"x": ["read"]}, AROUND)
        body, stretch = Body(["x"], [("last", piece.rows(), [("do", "b", ["x"], "")])]), ((0, 0, 0), 2)
        for told in [[], ["fail"], ["shut"], ["fail", "shut"]]:
            self.assertEqual(pairs(piece, kind, told * 3, "x"), pairs(piece, kind, tuple(told), "x"))
            self.assertEqual(pairs_in(body, stretch, told * 3, "x"), pairs_in(body, stretch, tuple(told[::-1]), "x"))
            self.assertEqual(rights_in(body, stretch, tuple(told * 2)), rights_in(body, stretch, told))
        self.assertNotEqual(pairs(piece, kind, ["fail", "shut"], "x"), pairs(piece, kind, ["fail"], "x"))
        self.assertNotEqual(pairs_in(body, stretch, ["fail", "shut"], "x"), pairs_in(body, stretch, ["fail"], "x"))
        # Ways that the piece does not have may be told.
        self.assertEqual(pairs(SOME, kind, ["shut", "answer", "leave", "again"], "x"), pairs(SOME, kind, [], "x"))

    def test_no_stretch_then_no_name_then_untold(self):
        body = Body(["x"], [("loop", "l", [("do", "a", ["x"], "y"), ("if", "i", [("leave",)], [("answer", "b", [])])])])
        for thing in odd_values() + [((0,), 2), ((0, 0, 0), 3), ((0, 0, 0), "1")]:
            if is_stretch(body, thing):
                continue
            for ask in [lambda: pairs_in(body, thing, [], "q"), lambda: rights_in(body, thing, [])]:
                with self.assertRaises(NoStretch) as caught:
                    ask()
                self.assertIs(caught.exception.stretch, thing)
        stretch, kind = ((0, 0, 0), 2), Kind({}, ["loop"])
        piece = piece_at(body, stretch)
        for name in ["q", "a", "l", "xx", "zzzzzzzz"]:
            for ask in [lambda: pairs(piece, kind, [], name, most=1), lambda: pairs_in(body, stretch, [], name, most=1)]:
                with self.assertRaises(NoName) as caught:
                    ask()
                self.assertEqual(caught.exception.name, name)
        for told, way in [([], "answer"), (["leave", "fail"], "answer"), (("answer", "answer", "again"), "leave")]:
            asks = [lambda: pairs(piece, kind, told, "x", most=1), lambda: pairs_in(body, stretch, told, "x", most=1),
                    lambda: rights(piece, kind, told, most=1), lambda: rights_in(body, stretch, told, most=1)]
            for ask in asks:
                with self.assertRaises(Untold) as caught:
                    ask()
                self.assertEqual(caught.exception.way, way)
        # A name of the body that is none of the piece.
        with self.assertRaises(NoName):
            pairs_in(Body(["x"], [("do", "a", [], ""), ("do", "b", ["x"], "")]), ((0,), 1), [], "x")

    def test_most(self):
        checked = 0
        for piece, plan, kind in made_folds(100):
            sizes = {}
            for name in piece.names():
                tables = [fold_table(piece, one_pair(name, pair, plan.told), kind, name) for pair in all_pairs()]
                sizes[name] = [len(states) for states in tables if states is not None]
            if not all(len(held) == 9 for held in sizes.values()):
                continue
            for name, held in sizes.items():
                self.assertEqual(pairs(piece, kind, plan.told, name, most=max(held)), all_pairs())
                if max(held) > 1:
                    checked += 1
                    with self.assertRaises(TooMany) as caught:
                        pairs(piece, kind, plan.told, name, most=max(held) - 1)
                    self.assertEqual(caught.exception.most, max(held) - 1)
            if sizes and max(max(held) for held in sizes.values()) > 1:
                most = max(max(held) for held in sizes.values())
                self.assertEqual(rights(piece, kind, plan.told, most=most), {name: all_pairs() for name in sizes})
                with self.assertRaises(TooMany):
                    rights(piece, kind, plan.told, most=most - 1)
        self.assertTrue(checked > 4, checked)

    def test_most_in_a_body(self):
        rows = [("catch", "q", "y", "put"), ("do", "c", ["y"], "y"), ("do", "d", ["x"], ""), ("do", "e", [], "")]
        body, stretch = Body(["x", "y"], rows), ((1,), 2)
        sizes = {name: [] for name in "xy"}
        for name in "xy":
            for pair in all_pairs():
                states = table(free_cut(body, stretch, one_pair(name, pair, [])), name)
                if states is not None:
                    sizes[name].append(len(states))
        for name in "xy":
            self.assertEqual(len(pairs_in(body, stretch, [], name, most=max(sizes[name]))), len(sizes[name]))
            with self.assertRaises(TooMany) as caught:
                pairs_in(body, stretch, [], name, most=max(sizes[name]) - 1)
            self.assertEqual(caught.exception.most, max(sizes[name]) - 1)
        most = max(max(held) for held in sizes.values())
        self.assertEqual(list(rights_in(body, stretch, [], most=most)), ["x", "y"])
        with self.assertRaises(TooMany):
            rights_in(body, stretch, [], most=most - 1)

    def test_pieces_with_many_states(self):
        # Whatever is asked for is made anew, so that nothing can be known from ahead.
        for given, rows, stretch, told, expected in LARGE:
            piece = piece_at(Body(given, rows), stretch)
            right = {name: [pair for pair in ALL if name not in differing(
                free_cut(Body(given, rows), stretch, one_pair(name, pair, told)), most=800)] for name in piece.names()}
            self.assertEqual(right, expected)
            for _ in range(2):
                self.assertEqual(rights_in(Body(given, rows), stretch, told, most=800), right)
            for name in piece.names():
                self.assertEqual(pairs_in(Body(given, rows), stretch, told, name, most=800), right[name])

    def test_one_state_less_than_a_right_pair_needs(self):
        for given, rows, stretch, told, right in LARGE:
            sizes = {name: self.need_sizes(Body(given, rows), stretch, told, name, right[name]) for name in right}
            for name in right:
                # By the pairs that are wrong for it, nf has more states than by those that are right.
                answer = right[name] if name != "nf" else None
                self.need_limit(lambda most: pairs_in(Body(given, rows), stretch, told, name, most=most), sizes[name], answer)
            self.need_limit(lambda most: rights_in(Body(given, rows), stretch, told, most=most), max(sizes.values()), right)

    def need_sizes(self, body, stretch, told, name, right):
        """How many states a name has by the right pair by which it has most of them."""
        sizes = []
        for pair in right:
            cut = free_cut(body, stretch, one_pair(name, pair, told))
            sizes.append(len(table(cut, name)))
            self.assertNotIn(name, differing(cut, most=800))
            if [name] == piece_at(body, stretch).names():
                self.need_limit(lambda most: differing(cut, most=most), sizes[-1], [])
        return max(sizes)

    def need_limit(self, ask, many, answer):
        """That so many states are enough for an answer, if one is told, and fewer are not."""
        if answer is not None:
            self.assertEqual(ask(many), answer)
        for most in {many - 1, many // 2, 1} - {0, many}:
            with self.assertRaises(TooMany) as caught:
                ask(most)
            self.assertEqual(caught.exception.most, most)

    def test_most_in_made_bodies(self):
        # A pair that is wrong, or that is right by fewer states, does not bring TooMany.
        checked = 0
        for k, body in enumerate(made_bodies(60, ("x", "y"))):
            for stretch in stretches(body)[k % 4::6]:
                piece = piece_at(body, stretch)
                told = told_for(piece, Dice(k))
                right = rights_in(body, stretch, told)
                sizes = {name: self.need_sizes(body, stretch, told, name, right[name]) for name in right if right[name]}
                if len(sizes) < len(right) or not sizes:
                    continue
                most = max(sizes.values())
                if all(self.is_told(body, stretch, one_pair(name, pair, told), name, most) for name in right for pair in ALL):
                    checked += 1
                    for name in right:
                        self.assertEqual(pairs_in(body, stretch, told, name, most=most), right[name])
                    self.assertEqual(rights_in(body, stretch, told, most=most), right)
                for name in sizes:
                    if sizes[name] > 1:
                        with self.assertRaises(TooMany):
                            pairs_in(body, stretch, told, name, most=sizes[name] - 1)
                        with self.assertRaises(TooMany):
                            rights_in(body, stretch, told, most=sizes[name] - 1)
        self.assertTrue(checked > 20, checked)

    def is_told(self, body, stretch, plan, name, most):
        """Whether so many states are enough for a plan, be it wrong."""
        try:
            table(free_cut(body, stretch, plan), name, most=most)
        except TooMany:
            return False
        return True

    def test_the_states_of_other_names_are_not_needed(self):
        # y has many states by each pair that is right for it, x has few.
        rows = [("catch", "p", "y", "put"), ("catch", "l", "y", "put"), ("do", "a", ["x"], ""), ("do", "b", [], "y")]
        piece, kind = Piece(rows), Kind({"y": ["put", "set", "unset"]}, ["guard"])
        sizes = {}
        for name in "xy":
            tables = [fold_table(piece, one_pair(name, pair, ["fail"]), kind, name) for pair in all_pairs()]
            sizes[name] = max(len(states) for states in tables if states is not None)
        self.assertTrue(sizes["x"] < sizes["y"], sizes)
        self.assertEqual(len(pairs(piece, kind, ["fail"], "x", most=sizes["x"])), 6)
        with self.assertRaises(TooMany):
            rights(piece, kind, ["fail"], most=sizes["x"])

    def test_names_exchanged(self):
        # [11]
        names = {"x": "y", "y": "x"}
        for piece, plan, kind in made_folds(40):
            looped = Body([], [("loop", "zzz", piece.rows())]).renamed(
                {name: names[name] for name in piece.names()}, {mark: mark[::-1] for mark in [*piece.marks(), "zzz"]})
            other = Piece(looped.row_at((0,))[2])
            other_kind = Kind({names[name]: kind.of(name) for name in kind.names()}, kind.around)
            right = rights(piece, kind, plan.told)
            self.assertEqual(rights(other, other_kind, plan.told), {names[name]: right[name] for name in right})

    def test_asking_again(self):
        for piece, plan, kind in made_folds(20):
            held = rights(piece, kind, plan.told)
            for name in held:
                pairs(piece, kind, plan.told, name).append("q")
                rights(piece, kind, plan.told)[name].append("q")
                self.assertEqual(pairs(piece, kind, plan.told, name), held[name])
            self.assertEqual(rights(piece, kind, plan.told), held)
        told = ["fail"]
        pairs(SOME, Kind({}, []), told, "x")
        rights(SOME, Kind({}, []), told)
        self.assertEqual(told, ["fail"])

    def test_a_right_plan_parts_nothing(self):
        for k, body in enumerate(made_bodies(30, ("x", "y"))):
            for stretch in stretches(body)[k % 7::11]:
                piece = piece_at(body, stretch)
                right = rights_in(body, stretch, needed_ways(piece))
                if all(right.values()):
                    plan = Plan({name: right[name][-1][0] for name in right}, {name: right[name][-1][1] for name in right}, needed_ways(piece))
                    self.assertIs(is_same(free_cut(body, stretch, plan)), True)


if __name__ == "__main__":
    unittest.main()
