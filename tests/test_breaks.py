"""[81]: by which words of a kind a pair of handings comes to be wrong; [9]."""

import itertools
import unittest

from cutoutpieces.breaks import greatest_kinds, is_frontier, least_kinds
from cutoutpieces.errors import NoName, TooMany, Untold
from cutoutpieces.folds import holds_name
from cutoutpieces.foldtables import fold_table
from cutoutpieces.kinds import Kind
from cutoutpieces.pieces import Piece
from cutoutpieces.plans import Plan, all_pairs, needed_ways
from samples import KIND_WORDS, Dice, made_folds, odd_values

TWO = Piece([("do", "a", [], "x"), ("do", "b", [], "")])
AROUND = ["guard", "last", "loop"]
ALL_WORDS = sorted(KIND_WORDS + AROUND)
FIVE = ["guard", "look", "loop", "put", "read"]


def all_sets(words):
    return [held for many in range(len(set(words)) + 1) for held in itertools.combinations(sorted(set(words)), many)]


def kind_for(name, held):
    return Kind({name: [word for word in held if word in KIND_WORDS]}, [word for word in held if word in AROUND])


def plan_for(name, pair, told):
    return Plan({name: pair[0]}, {name: pair[1]}, told)


def judged(piece, told, name, pair, words):
    """The dict from all sets of words to whether the pair is right."""
    plan = plan_for(name, pair, told)
    return {held: holds_name(piece, plan, kind_for(name, held), name) for held in all_sets(words)}


def bounds(right):
    """The least sets that are wrong, and the greatest that are right."""
    least = [held for held in right if not right[held] and all(right[other] for other in right if set(other) < set(held))]
    greatest = [held for held in right if right[held] and not any(right[other] for other in right if set(held) < set(other))]
    return sorted(least), sorted(greatest)


def asked_folds(many):
    """So many tuples (piece, told, name, pair, words)."""
    found = []
    for k, (piece, plan, _) in enumerate(made_folds(3 * many, ("x", "y"))):
        dice = Dice(k)
        if piece.names() and len(found) < many:
            words = [word for word in ALL_WORDS if dice.below(2)]
            told = [way for way in plan.told if dice.below(3) or way in needed_ways(piece)]
            found.append((piece, told, dice.one_of(piece.names()), dice.one_of(all_pairs()), words))
    return found


class BreaksTest(unittest.TestCase):
    def need(self, piece, told, name, pair, words):
        least, greatest = bounds(judged(piece, told, name, pair, words))
        self.assertEqual(least_kinds(piece, told, name, pair, words), least)
        self.assertEqual(greatest_kinds(piece, told, name, pair, words), greatest)
        self.assertIs(is_frontier(piece, told, name, pair, words, least, greatest), True)
        return least, greatest

    def test_the_example(self):
        self.assertEqual(least_kinds(TWO, [], "x", ("none", "state"), FIVE), [("guard", "read"), ("look",), ("put", "read")])
        self.assertEqual(greatest_kinds(TWO, [], "x", ("none", "state"), FIVE), [("guard", "loop", "put"), ("loop", "read")])

    def test_all_right_and_all_wrong(self):
        read = Piece([("do", "a", ["x"], "")])
        self.assertEqual(self.need(read, [], "x", ("none", "none"), ["read", "loop"]), ([()], []))
        self.assertEqual(self.need(read, [], "x", ("value", "none"), ["read", "loop"]), ([], [("loop", "read")]))
        self.assertEqual(self.need(read, [], "x", ("value", "none"), []), ([], [()]))
        self.assertEqual(self.need(read, [], "x", ("none", "none"), []), ([()], []))
        self.assertEqual(self.need(read, [], "x", ("value", "none"), ["unset", "read"]), ([("unset",)], [("read",)]))

    def test_all_nine_words(self):
        for pair in [("none", "none"), ("none", "value"), ("value", "state"), ("state", "state"), ("state", "none")]:
            for told in [[], ["fail"]]:
                self.need(TWO, told, "x", pair, ALL_WORDS)
        piece = Piece([("do", "a", ["x"], "y"), ("yield", "b", [], "x"), ("catch", "c", "y", "look")])
        for name in "xy":
            self.need(piece, ["fail", "shut"], name, ("state", "state"), ALL_WORDS)

    def test_the_words_in_any_order(self):
        for words in itertools.islice(itertools.permutations(FIVE), 0, 120, 11):
            for held in [list(words), list(words) + ["read"]]:
                self.assertEqual(least_kinds(TWO, (), "x", ("none", "state"), held), [("guard", "read"), ("look",), ("put", "read")])
                self.assertEqual(greatest_kinds(TWO, (), "x", ("none", "state"), held), [("guard", "loop", "put"), ("loop", "read")])
                self.assertIs(is_frontier(TWO, (), "x", ("none", "state"), held, [("put", "read"), ("look",), ("guard", "read")],
                                          [("loop", "read"), ("guard", "loop", "put")]), True)

    def test_against_holds_name(self):
        told = {"none": 0, "some": 0, "many": 0}
        for asked in asked_folds(130):
            least, greatest = self.need(*asked)
            told["none" if not least or not greatest else "many" if len(least) + len(greatest) > 4 else "some"] += 1
        self.assertTrue(min(told.values()) > 3, told)

    def test_told_ways(self):
        piece = Piece([("yield", "a", [], "x"), ("yield", "b", [], "")])
        answers = {}
        for told in [[], ["fail"], ["shut"], ["fail", "shut"]]:
            answers[tuple(told)] = self.need(piece, told, "x", ("state", "state"), AROUND + ["read"])
            self.assertEqual(self.need(piece, tuple(told * 2), "x", ("state", "state"), AROUND + ["read"]), answers[tuple(told)])
        self.assertEqual(answers[("fail", "shut")][0], [])
        self.assertEqual([answers[()][0], answers[("fail",)][0]], [[("guard", "read"), ("last", "read")], [("last", "read")]])

    def test_a_leave_that_stands_in_no_loop(self):
        piece = Piece([("do", "a", [], "x"), ("leave",)])
        self.assertEqual(self.need(piece, ["leave"], "x", ("none", "none"), ["loop", "look", "read"]),
                         ([("look", "loop"), ("loop", "read")], [("look", "read"), ("loop",)]))

    def test_what_is_a_frontier(self):
        least, greatest = [("guard", "read"), ("look",), ("put", "read")], [("guard", "loop", "put"), ("loop", "read")]
        pair = ("none", "state")

        def ask(wrong, right):
            return is_frontier(TWO, [], "x", pair, FIVE, wrong, right)

        for wrong in itertools.permutations(least):
            self.assertIs(ask(list(wrong) + [wrong[0]], greatest[::-1] * 2), True)
        # Others put in, and greater or lesser ones.
        self.assertIs(ask(least + [("guard", "look"), tuple(FIVE)], greatest + [(), ("loop",), ("guard", "put")]), True)
        for k in range(3):
            self.assertIs(ask(least[:k] + least[k + 1:], greatest), False)
        for k in range(2):
            self.assertIs(ask(least, greatest[:k] + greatest[k + 1:]), False)
        self.assertIs(ask(least + [("guard",)], greatest), False)
        self.assertIs(ask(least + [()], greatest), False)
        self.assertIs(ask(least, greatest + [("look",)]), False)
        self.assertIs(ask(least, greatest + [("guard", "loop", "read")]), False)
        # A lesser one instead of a greatest one, a greater one instead of a least one.
        self.assertIs(ask(least, [("guard", "loop"), ("loop", "read")]), False)
        self.assertIs(ask([("guard", "look"), ("guard", "read"), ("put", "read")], greatest), False)
        self.assertIs(ask(greatest, least), False)
        self.assertIs(ask([], []), False)
        self.assertIs(ask([()], []), False)
        self.assertIs(ask([], [tuple(FIVE)]), False)
        # A set may stand there as often as thousands of times.
        self.assertIs(ask(least * 3000, greatest + [()] * 9000), True)
        self.assertIs(ask(least * 3000, greatest + [("look",)] * 9000), False)
        # Each set by itself.
        right = judged(TWO, [], "x", pair, FIVE)
        self.assertIs(ask([held for held in right if not right[held]], [held for held in right if right[held]]), True)

    def test_made_lists_that_are_no_frontiers(self):
        told = {True: 0, False: 0}
        for k, (piece, ways, name, pair, words) in enumerate(asked_folds(110)):
            words = words[:5]
            dice = Dice(k)
            right = judged(piece, ways, name, pair, words)
            least, greatest = bounds(right)
            for _ in range(4):
                wrong = [held for held in least if dice.below(6)] + [held for held in right if not dice.below(12)]
                held_right = [held for held in greatest if dice.below(6)] + [held for held in right if not dice.below(12)]
                good = all(not right[held] for held in wrong) and all(right[held] for held in held_right)
                good = good and all(any(set(other) <= set(held) for other in wrong) or any(set(held) <= set(other) for other in held_right)
                                    for held in right)
                self.assertIs(is_frontier(piece, ways, name, pair, words, wrong, held_right), good)
                told[good] += 1
        self.assertTrue(min(told.values()) > 30, told)

    def test_any_values(self):
        least, greatest = [("guard", "read"), ("look",), ("put", "read")], [("guard", "loop", "put"), ("loop", "read")]
        for thing in odd_values():
            self.assertIs(is_frontier(TWO, [], "x", ("none", "state"), FIVE, thing, greatest), False)
            self.assertIs(is_frontier(TWO, [], "x", ("none", "state"), FIVE, least, thing), False)
            self.assertIs(is_frontier(TWO, [], "x", ("none", "state"), FIVE, least + [thing], greatest), False)
            if thing != ():
                self.assertIs(is_frontier(TWO, [], "x", ("none", "state"), FIVE, least, greatest + [thing]), False)
        for thing in [("loop", "guard"), ("guard", "guard"), ["guard"], "guard", ("set",), ("unset",), ("Guard",), ("guard", 1), ("guard", None), (("guard",),)]:
            self.assertIs(is_frontier(TWO, [], "x", ("none", "state"), FIVE, least, greatest + [thing]), False)
            self.assertIs(is_frontier(TWO, [], "x", ("none", "state"), FIVE, least + [thing], greatest), False)
        self.assertIs(is_frontier(TWO, [], "x", ("none", "state"), FIVE, tuple(least), greatest), False)
        self.assertIs(is_frontier(TWO, [], "x", ("none", "state"), FIVE, least, tuple(greatest)), False)
        self.assertIs(is_frontier(TWO, [], "x", ("none", "state"), FIVE, {held: True for held in least}, greatest), False)

    def test_no_name_then_untold(self):
        piece = Piece([("do", "a", ["x"], "y"), ("if", "i", [("leave",)], [("again",)])])
        asks = [lambda *given: least_kinds(*given, ["read", "loop"], most=1), lambda *given: greatest_kinds(*given, [], most=1),
                lambda *given: is_frontier(*given, ["read"], None, 7, most=1)]
        for ask in asks:
            for name in ["a", "i", "q", "xx", "zzzzzzzz"]:
                with self.assertRaises(NoName) as caught:
                    ask(piece, [], name, ("value", "none"))
                self.assertEqual(caught.exception.name, name)
                # Also if nothing is handed.
                with self.assertRaises(NoName):
                    ask(piece, [], name, ("none", "none"))
            for told, way in [([], "again"), (("again", "again", "fail"), "leave"), (["leave", "answer"], "again")]:
                with self.assertRaises(Untold) as caught:
                    ask(piece, told, "x", ("none", "none"))
                self.assertEqual(caught.exception.way, way)

    def sizes(self, right, piece, told, name, pair):
        plan = plan_for(name, pair, told)
        return {held: len(fold_table(piece, plan, kind_for(name, held), name)) for held in right if right[held]}

    def test_most(self):
        checked = lesser = 0
        for piece, told, name, pair, words in asked_folds(120):
            words = words[:5]
            right = judged(piece, told, name, pair, words)
            least, greatest = bounds(right)
            sizes = self.sizes(right, piece, told, name, pair)
            asks = [lambda most: least_kinds(piece, told, name, pair, words, most=most),
                    lambda most: greatest_kinds(piece, told, name, pair, words, most=most),
                    lambda most: is_frontier(piece, told, name, pair, words, least, greatest, most=most)]
            if not greatest:
                continue
            needed = max(sizes[held] for held in greatest)
            for ask in asks:
                if needed > 1:
                    checked += 1
                    with self.assertRaises(TooMany) as caught:
                        ask(needed - 1)
                    self.assertEqual(caught.exception.most, needed - 1)
                if not least:
                    # Nothing is wrong: what is right for a lesser set is known by the greatest one.
                    ask(needed)
                    lesser += max(sizes.values()) > needed
                else:
                    ask(max([*sizes.values(), 2000]))
        self.assertTrue(checked > 100 and lesser > 0, (checked, lesser))

    def test_no_states_are_needed_for_what_tells_itself_that_it_is_no_frontier(self):
        ask = [TWO, [], "x", ("none", "state"), FIVE]
        self.assertIs(is_frontier(*ask, [("look",)], [("loop", "read")], most=1), False)
        self.assertIs(is_frontier(*ask, [("lost",)], [("loop", "read")], most=1), False)
        self.assertIs(is_frontier(*ask, [("look",), ()], [("look", "loop")], most=1), False)
        with self.assertRaises(TooMany):
            is_frontier(*ask, least_kinds(*ask), greatest_kinds(*ask), most=1)
        # One that is wrong is known, though another one has too many states.
        read = Piece([("do", "a", ["x"], ""), ("do", "b", [], "")])
        sizes = self.sizes(judged(read, [], "x", ("value", "none"), ["put", "read", "strike"]), read, [], "x", ("value", "none"))
        self.assertIs(is_frontier(read, [], "x", ("value", "none"), ["read", "strike"], [("strike",)], [("read",)]), True)
        self.assertIs(is_frontier(read, [], "x", ("value", "none"), ["read", "strike"], [()], [], most=sizes[()]), False)

    def test_asking_again(self):
        for asked in asked_folds(20):
            first = (least_kinds(*asked), greatest_kinds(*asked))
            held = [list(part) if isinstance(part, list) else part for part in asked]
            least_kinds(*asked).append("q")
            greatest_kinds(*asked).append("q")
            wrong, right = list(first[0]), list(first[1])
            is_frontier(*asked, wrong, right)
            self.assertEqual((least_kinds(*asked), greatest_kinds(*asked), wrong, right), (*first, *first))
            self.assertEqual(held, list(asked))


if __name__ == "__main__":
    unittest.main()
