"""[3], [5] to [11] over several parts of the program at once."""

import itertools
import unittest

from cutoutpieces.bodies import Body
from cutoutpieces.book import Book
from cutoutpieces.breaks import greatest_kinds, least_kinds
from cutoutpieces.cuts import Cut
from cutoutpieces.cutting import play_cut
from cutoutpieces.folds import breaking, holds
from cutoutpieces.kinds import Kind, kind_of
from cutoutpieces.lean import is_lean, leaner, parted_body
from cutoutpieces.leasts import against, bars, least_plans, least_plans_in, lesser_plans, never, tellings
from cutoutpieces.lots import alone, right_lots
from cutoutpieces.notation import show_body, show_cut, show_kind, show_plan
from cutoutpieces.pieces import Piece, piece_at, stretches
from cutoutpieces.plans import Plan, all_pairs, needed_ways, weight
from cutoutpieces.playing import Run
from cutoutpieces.products import differing, is_same, parting
from cutoutpieces.readers import read_body, read_cut, read_kind, read_plan
from cutoutpieces.rights import rights, rights_in
from samples import KIND_WORDS, Dice, made_bodies, made_cuts, made_folds, made_plan

NAMES = {"x": "y", "y": "x"}


def exchanged_piece(piece):
    """The piece with its names exchanged and its marks turned round."""
    names = {name: NAMES[name] for name in piece.names()}
    body = Body([], [("loop", "zzz", piece.rows())]).renamed(names, {mark: mark[::-1] for mark in [*piece.marks(), "zzz"]})
    return Piece(body.row_at((0,))[2])


def exchanged_plan(plan):
    ins, backs = [{NAMES[name]: held for name, held in told.items()} for told in (plan.ins(), plan.backs())]
    return Plan(ins, backs, plan.told)


def exchanged_kind(kind):
    return Kind({NAMES[name]: kind.of(name) for name in kind.names()}, kind.around)


def exchanged_what(what):
    return (what[0], NAMES.get(what[1], what[1]))


class GuaranteesTest(unittest.TestCase):
    def test_a_single_name_is_enough(self):
        # [5]: each name that differs does so with the pair of it alone, whatever else is handed.
        for cut in made_cuts(60):
            names = differing(cut)
            self.assertIs(is_same(cut), names == [])
            for name in cut.body.names():
                calls = []
                for mark, stretch, plan in cut.calls():
                    alone_plan = Plan({}, {}, plan.told)
                    if name in plan.names():
                        alone_plan = alone_plan.with_pair(name, plan[name])
                    calls.append((mark, stretch, alone_plan))
                self.assertIs(name in differing(Cut(cut.body, calls)), name in names)

    def test_a_piece_holds_or_a_body_of_the_kind_is_parted(self):
        # [6]
        for piece, plan, kind in made_folds(80):
            told = parted_body(piece, plan, kind)
            self.assertIs(told is None, holds(piece, plan, kind))
            if told is not None:
                body, stretch, words = told
                run = Run(body)
                for word in words:
                    run.go(word)
                self.assertNotEqual(run.signs(), play_cut_as_far(Cut(body, [("q", stretch, plan)]), words))
                self.assertIs(holds(piece, plan, kind_of(body, stretch)), False)
        for k, body in enumerate(made_bodies(60, ("x", "y"))):
            dice = Dice(k)
            for stretch in stretches(body)[k % 5::9]:
                piece, kind = piece_at(body, stretch), kind_of(body, stretch)
                for plan in [made_plan(piece, dice), *least_plans(piece, kind)]:
                    if parted_body(piece, plan, kind) is None:
                        self.assertIs(is_same(Cut(body, [("q", stretch, plan)])), True)

    def test_the_lightest_right_plan_is_a_least_one(self):
        # [7]: of those that tell the same, no right plan hands any name less.
        for piece, _, kind in made_folds(60, ("x",)):
            least = least_plans(piece, kind)
            for told in tellings(piece):
                right = [Plan({"x": pair[0]}, {"x": pair[1]}, told) for pair in all_pairs()] if piece.names() else [Plan({}, {}, told)]
                right = [plan for plan in right if holds(piece, plan, kind)]
                for plan in least:
                    if list(plan.told) == told:
                        self.assertEqual(weight(plan), min(weight(other) for other in right))
                if right and least:
                    self.assertTrue(len(told) >= len(least[0].told))

    def test_lesser_kinds(self):
        # [9]
        for piece, plan, kind in made_folds(40):
            dice = Dice(len(piece))
            words = {name: [word for word in kind.of(name) if dice.below(3)] for name in kind.names()}
            less = Kind(words, [word for word in kind.around if dice.below(3)])
            self.assertTrue(less.within(kind))
            self.assertTrue(set(breaking(piece, plan, less)) <= set(breaking(piece, plan, kind)))
            if parted_body(piece, plan, less) is not None:
                self.assertIsNotNone(parted_body(piece, plan, kind))
            if not never(piece, kind):
                self.assertIs(never(piece, less), False)
                self.assertIsNone(bars(piece, less))
            mine, its = rights(piece, kind, plan.told), rights(piece, less, plan.told)
            self.assertTrue(all(set(mine[name]) <= set(its[name]) for name in mine))

    def test_calls_put_in_in_any_order_and_taken_out(self):
        # [10]
        for cut in made_cuts(25):
            for calls in itertools.permutations(cut.calls()):
                book = Book(cut.body)
                for call in calls:
                    book.do(("cut", *call))
                self.assertEqual([book.cut, book.is_same(), show_cut(book.cut)], [cut, is_same(cut), show_cut(cut)])
                for mark, _, _ in calls:
                    book.do(("back", mark))
                self.assertEqual([book.cut, book.cut.body], [Cut(cut.body, []), cut.body])

    def test_names_and_marks_exchanged(self):
        # [11]
        for piece, plan, kind in made_folds(50):
            other, its_plan, its_kind = exchanged_piece(piece), exchanged_plan(plan), exchanged_kind(kind)
            self.assertEqual(least_plans(other, its_kind), [exchanged_plan(held) for held in least_plans(piece, kind)])
            self.assertEqual([never(other, its_kind), tellings(other)], [never(piece, kind), tellings(piece)])
            barred = bars(piece, kind)
            self.assertEqual(bars(other, its_kind), barred and {ways: sorted(NAMES[name] for name in barred[ways]) for ways in barred})
            self.assertEqual(sorted(what for what, _ in lesser_plans(other, its_plan)), sorted(exchanged_what(what) for what, _ in lesser_plans(piece, plan)))
            told, its = against(piece, plan, kind), against(other, its_plan, its_kind)
            self.assertEqual({exchanged_what(what): told[what] is None for what in told}, {what: its[what] is None for what in its})
            for name in piece.names():
                asked = [list(plan.told), name, plan[name], KIND_WORDS[:3] + ["guard"]]
                self.assertEqual(least_kinds(other, asked[0], NAMES[name], *asked[2:]), least_kinds(piece, *asked))
                self.assertEqual(greatest_kinds(other, asked[0], NAMES[name], *asked[2:]), greatest_kinds(piece, *asked))
        for cut in made_cuts(40):
            body = cut.body.renamed({name: NAMES[name] for name in cut.body.names()}, {mark: mark[::-1] for mark in cut.body.marks()})
            other = Cut(body, [("o" + mark, stretch, exchanged_plan(plan)) for mark, stretch, plan in cut.calls()])
            self.assertEqual(right_lots(other), right_lots(cut))
            self.assertEqual(alone(other), {"o" + mark: right for mark, right in alone(cut).items()})
            for mark, stretch, plan in cut.calls():
                self.assertIs(is_lean(body, stretch, exchanged_plan(plan)), is_lean(cut.body, stretch, plan))
                self.assertEqual([at for _, at in leaner(body, stretch)], [at for _, at in leaner(cut.body, stretch)])
                right = rights_in(cut.body, stretch, plan.told)
                self.assertEqual(rights_in(body, stretch, plan.told), {NAMES[name]: right[name] for name in right})
                self.assertEqual(least_plans_in(body, stretch), [exchanged_plan(held) for held in least_plans_in(cut.body, stretch)])

    def test_the_order_of_keys_means_nothing(self):
        # [3]
        piece = Piece([("do", "a", ["x", "y"], "z"), ("do", "b", ["z"], "x")])
        ins, backs, words = {"y": "value", "x": "state"}, {"z": "value", "x": "state"}, {"z": ["read", "look"], "x": ["unset"], "y": ["set"]}
        plans = [Plan(dict(order), dict(reversed(backs.items())), told) for order in itertools.permutations(ins.items()) for told in [["fail", "shut"], ("shut", "fail", "shut")]]
        kinds = [Kind(dict(order), around) for order in itertools.permutations(words.items()) for around in [["loop", "guard"], ("guard", "loop", "loop")]]
        for plan in plans:
            for kind in kinds:
                self.assertEqual([breaking(piece, plan, kind), parted_body(piece, plan, kind)], [breaking(piece, plans[0], kinds[0]), parted_body(piece, plans[0], kinds[0])])
                self.assertEqual([list(rights(piece, kind, plan.told)), list(against(piece, plan, kind)), show_plan(plan), show_kind(kind)],
                                 [["x", "y", "z"], [("back", "x"), ("back", "z"), ("in", "x"), ("in", "y"), ("told", "fail"), ("told", "shut")],
                                  show_plan(plans[0]), show_kind(kinds[0])])

    def test_what_was_returned_may_be_passed_in(self):
        for k, cut in enumerate(made_cuts(20)):
            text = show_cut(cut)
            other = read_cut(text)
            self.assertEqual([other, differing(other), parting(other)], [cut, differing(cut), parting(cut)])
            body = read_body(show_body(cut.body))
            for mark, stretch, plan in cut.calls():
                told = read_plan(show_plan(plan))
                kind = read_kind(show_kind(kind_of(body, stretch)))
                self.assertEqual(breaking(piece_at(body, stretch), told, kind), breaking(piece_at(cut.body, stretch), plan, kind_of(cut.body, stretch)))
                for less, at in leaner(body, stretch)[k % 4::5]:
                    self.assertEqual(len(rights_in(less, at, needed_ways(piece_at(less, at)))), len(piece_at(less, at).names()))


def play_cut_as_far(cut, words):
    """The signs of a cut body with the words, as far as it takes them."""
    for end in range(len(words), -1, -1):
        try:
            return play_cut(cut, words[:end])
        except ValueError:
            continue
    return []


if __name__ == "__main__":
    unittest.main()
