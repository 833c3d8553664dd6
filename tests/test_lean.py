"""[72]: leaner bodies, lean ones, and those that part a piece from its cut."""

import unittest

from cutoutpieces.bodies import Body
from cutoutpieces.cuts import Cut
from cutoutpieces.cutting import play_cut, unlike
from cutoutpieces.errors import NoName, NoStretch, PieceError, TooMany, Untold
from cutoutpieces.folds import holds
from cutoutpieces.foldtables import fold_table
from cutoutpieces.kinds import Kind, kind_of
from cutoutpieces.lean import is_lean, leaner, parted_body
from cutoutpieces.pieces import Piece, is_stretch, piece_at, stands_in, stretches
from cutoutpieces.plans import Plan, needed_ways
from cutoutpieces.playing import play
from cutoutpieces.products import is_same, parting
from cutoutpieces.rows import lists_of, with_lists
from cutoutpieces.tables import table
from cutreference import shortest_parting
from samples import KIND_WORDS, Dice, made_bodies, made_folds, made_plan, odd_values

TWO = Piece([("do", "a", [], "x"), ("do", "b", [], "")])
AROUND = ["guard", "last", "loop"]


def labelled(rows, path=()):
    """Rows as tuples (address, row, lists), which keep their addresses wherever they come to stand."""
    return [((*path, index), row, [labelled(inner, (*path, index, number)) for number, inner in enumerate(lists_of(row))])
            for index, row in enumerate(rows)]


def plain(rows):
    """The rows of labelled ones."""
    return [with_lists(row, [plain(inner) for inner in lists]) if lists else row for _, row, lists in rows]


def places(rows, path=()):
    """The dict from the addresses that labelled rows keep to those at which they stand."""
    found = {}
    for index, (address, _, lists) in enumerate(rows):
        found[address] = (*path, index)
        for number, inner in enumerate(lists):
            found.update(places(inner, (*path, index, number)))
    return found


def replaced(rows, address, number):
    """Labelled rows in which one is replaced by those of one of its lists, by none if number is None."""
    found = []
    for held, row, lists in rows:
        if held == address:
            found.extend([] if number is None else lists[number])
        else:
            found.append((held, row, [replaced(inner, address, number) for inner in lists]))
    return found


def all_leaner(body, stretch):
    """A second reading of what is leaner by a step."""
    gap, many = stretch
    tops = [(*gap[:-1], gap[-1] + k) for k in range(many)]
    found = []
    for address in body.addresses():
        if any(address[:len(top)] == top for top in tops):
            continue
        lists = lists_of(body.row_at(address))
        within = gap[:len(address)] == address and len(gap) > len(address)
        numbers = [gap[len(address)]] if within else [None] + [k for k in range(len(lists)) if lists[k]]
        for number in numbers:
            rows = replaced(labelled(body.rows()), address, number)
            try:
                less = Body(body.given, plain(rows))
            except PieceError:
                continue
            found.append((less, (places(rows)[gap], many)))
    return found


def free_cut(body, stretch, plan):
    """The Cut with one call."""
    return Cut(body, [("zzzzzzzz", stretch, plan)])


class LeanerTest(unittest.TestCase):
    def test_each_row_left_out_and_opened(self):
        rows = [("do", "a", [], ""), ("if", "i", [("do", "b", [], ""), ("do", "c", [], "")], [("do", "d", [], "")]), ("do", "e", [], "")]
        told = leaner(Body(["x"], rows), ((2,), 1))
        self.assertEqual([less.marks() for less, _ in told],
                         [["b", "c", "d", "e", "i"], ["a", "e"], ["a", "b", "c", "e"], ["a", "d", "e"],
                          ["a", "c", "d", "e", "i"], ["a", "b", "d", "e", "i"], ["a", "b", "c", "e", "i"]])
        self.assertEqual([stretch for _, stretch in told],
                         [((1,), 1), ((1,), 1), ((3,), 1), ((2,), 1), ((2,), 1), ((2,), 1), ((2,), 1)])
        self.assertEqual({less.given for less, _ in told}, {("x",)})

    def test_a_row_around_is_opened_by_the_list_of_the_piece_alone(self):
        rows = [("do", "a", [], ""), ("if", "i", [("do", "b", [], "")], [("do", "c", [], ""), ("guard", [("do", "d", [], "")], [])])]
        told = leaner(Body([], rows), ((1, 1, 1, 0, 0), 1))
        self.assertEqual([less.marks() for less, _ in told], [["b", "c", "d", "i"], ["a", "c", "d"], ["a", "c", "d", "i"],
                                                              ["a", "b", "d", "i"], ["a", "b", "c", "d", "i"]])
        self.assertEqual([stretch for _, stretch in told], [((0, 1, 1, 0, 0), 1), ((2, 0, 0), 1), ((1, 1, 1, 0, 0), 1),
                                                            ((1, 1, 0, 0, 0), 1), ((1, 1, 1), 1)])

    def test_rows_of_the_piece_stay(self):
        rows = [("loop", "l", [("if", "i", [("leave",)], [("do", "a", [], "")])]), ("do", "b", [], "")]
        self.assertEqual(leaner(Body([], rows), ((0,), 2)), [])
        self.assertEqual([less.marks() for less, _ in leaner(Body([], rows), ((0,), 1))], [["a", "i", "l"]])

    def test_what_would_be_no_body_is_left_out(self):
        rows = [("loop", "l", [("do", "a", [], ""), ("leave",)]), ("if", "i", [("answer", "b", [])], []), ("do", "c", [], "")]
        told = leaner(Body([], rows), ((2,), 1))
        # Neither may the loop be opened nor the if.
        self.assertEqual([less.marks() for less, _ in told],
                         [["b", "c", "i"], ["b", "c", "i", "l"], ["a", "b", "c", "i", "l"], ["a", "c", "l"], ["a", "c", "i", "l"]])
        told = leaner(Body([], [("loop", "l", [("do", "a", [], ""), ("again",)])]), ((0, 0, 1), 1))
        self.assertEqual(told, [(Body([], [("loop", "l", [("again",)])]), ((0, 0, 0), 1))])

    def test_equal_ones_as_often_as_they_come(self):
        rows = [("guard", [], []), ("guard", [], []), ("guard", [("guard", [], [])], []), ("do", "a", [], "")]
        told = leaner(Body([], rows), ((3,), 1))
        self.assertEqual([less.rows()[0] for less, _ in told].count(("guard", (), ())), 5)
        self.assertEqual(told[0], told[1])
        self.assertEqual(len(told), 5)

    def test_empty_lists_are_not_opened(self):
        rows = [("if", "i", [], []), ("last", [], [("do", "a", [], "")]), ("do", "b", [], "")]
        told = leaner(Body([], rows), ((2,), 1))
        self.assertEqual([less.rows() for less, _ in told], [
            [("last", (), (("do", "a", (), ""),)), ("do", "b", (), "")], [("if", "i", (), ()), ("do", "b", (), "")],
            [("if", "i", (), ()), ("do", "a", (), ""), ("do", "b", (), "")], [("if", "i", (), ()), ("last", (), ()), ("do", "b", (), "")]])

    def test_against_a_second_reading(self):
        many = 0
        for body in made_bodies(80):
            for stretch in stretches(body)[::5]:
                told = leaner(body, stretch)
                self.assertEqual(told, all_leaner(body, stretch))
                for less, following in told:
                    self.assertEqual(piece_at(less, following), piece_at(body, stretch))
                    self.assertTrue(len(less) < len(body))
                many += len(told)
        self.assertTrue(many > 1000, many)

    def test_what_is_no_stretch(self):
        body = Body(["x"], [("do", "a", [], "x"), ("guard", [("do", "b", [], "")], [])])
        for thing in odd_values() + [((0,), 3), ((2,), 1), ((1, 0, 0), 2), ((1, 1, 0), 1), ((0, 0, 0), 1), [(0,), 1], ((0,), "1")]:
            if is_stretch(body, thing):
                continue
            for ask in [leaner, lambda *given: is_lean(*given, Plan({"q": "value"}, {}, []))]:
                with self.assertRaises(NoStretch) as caught:
                    ask(body, thing)
                self.assertIs(caught.exception.stretch, thing)

    def test_of_a_kind_stays_of_the_kind(self):
        for body in made_bodies(30):
            for stretch in stretches(body)[::5]:
                for less, following in leaner(body, stretch):
                    self.assertTrue(kind_of(less, following).within(kind_of(body, stretch)))

    def test_nothing_is_changed(self):
        body = made_bodies(3)[2]
        rows, stretch = body.rows(), stretches(body)[0]
        leaner(body, stretch).clear()
        self.assertEqual(leaner(body, stretch), all_leaner(body, stretch))
        self.assertEqual(body.rows(), rows)


class IsLeanTest(unittest.TestCase):
    def test_lean_or_not(self):
        rows = [("do", "a", [], "x"), ("do", "b", ["x"], "")]
        none, back = Plan({}, {}, []), Plan({}, {"x": "value"}, [])
        self.assertIs(is_lean(Body([], rows), ((0,), 1), none), True)
        self.assertIs(is_lean(Body([], rows), ((0,), 1), back), False)
        self.assertIs(is_lean(Body([], [*rows, ("do", "c", [], "")]), ((0,), 1), none), False)
        self.assertIs(is_lean(Body([], [("guard", rows, [])]), ((0, 0, 0), 1), none), False)
        self.assertIs(is_lean(Body(["x"], [rows[1]]), ((0,), 1), none), True)
        self.assertIs(is_lean(Body(["x"], rows), ((0,), 1), Plan({"x": "value"}, {"x": "value"}, [])), False)

    def test_against_is_same(self):
        told = {True: 0, False: 0}
        for k, body in enumerate(made_bodies(100, ("x", "y"))):
            dice = Dice(k)
            for stretch in stretches(body)[k % 5::9]:
                plan = made_plan(piece_at(body, stretch), dice)
                leanest = (body, stretch)
                # On to a lean one.
                while leanest is not None:
                    body_now, at = leanest
                    told[self.need(body_now, at, plan)] += 1
                    leanest = next((less for less in leaner(body_now, at) if not is_same(free_cut(*less, plan))), None)
        self.assertTrue(min(told.values()) > 50, told)

    def need(self, body, stretch, plan):
        lean = not is_same(free_cut(body, stretch, plan))
        lean = lean and all(is_same(free_cut(less, at, plan)) for less, at in leaner(body, stretch))
        self.assertIs(is_lean(body, stretch, plan), lean)
        return lean

    def test_any_mark_may_be_taken(self):
        # Marks of the body that one might take for the call.
        letters = "abcdefghijklmnopqrstuvwxyz"
        for marks in [[a + b for a in "az" for b in letters[:8]], list(letters[:16]), ["call", "f", "cut", "m", "x", "mark", "aa", "a"]]:
            rows = [("do", mark, [], "") for mark in marks[:-1]]
            body = Body([], [("do", marks[-1], [], "x"), ("do", "q" * 8, ["x"], ""), *rows[:14]])
            self.assertIs(is_lean(body, ((0,), 1), Plan({}, {}, [])), False)

    def test_need_fit_behind_the_stretch(self):
        body = Body([], [("loop", "l", [("do", "a", ["x"], "y"), ("leave",)])])
        with self.assertRaises(NoStretch):
            is_lean(body, ((0,), 2), Plan({"q": "value"}, {}, []))
        for plan, error, held in [(Plan({"z": "value"}, {"q": "state"}, []), NoName, "q"), (Plan({"x": "value"}, {}, ["fail"]), Untold, "leave")]:
            with self.assertRaises(error) as caught:
                is_lean(body, ((0, 0, 0), 2), plan, most=1)
            self.assertEqual([*vars(caught.exception).values()], [held])

    def test_most(self):
        rows = [("do", "a", [], "x"), ("do", "b", ["x"], ""), ("do", "c", [], "")]
        body, stretch = Body([], rows), ((0,), 1)
        # It is the same, and the states of x are needed.
        back = Plan({}, {"x": "value"}, [])
        size = len(table(free_cut(body, stretch, back), "x"))
        self.assertIs(is_lean(body, stretch, back, most=size), False)
        with self.assertRaises(TooMany) as caught:
            is_lean(body, stretch, back, most=size - 1)
        self.assertEqual(caught.exception.most, size - 1)
        # It is lean, and the states of x in all leaner ones are needed.
        body, none = Body([], rows[:2]), Plan({}, {}, [])
        sizes = [len(table(free_cut(*less, none), "x")) for less in leaner(body, stretch)]
        self.assertIs(is_lean(body, stretch, none, most=max(sizes)), True)
        with self.assertRaises(TooMany):
            is_lean(body, stretch, none, most=max(sizes) - 1)


class PartedBodyTest(unittest.TestCase):
    def need(self, piece, plan, kind, shortest=True):
        """What parted_body tells is all that it has to be."""
        told = parted_body(piece, plan, kind)
        self.assertIs(told is None, holds(piece, plan, kind))
        if told is None:
            return None
        self.assertIsInstance(told, tuple)
        body, stretch, words = told
        self.assertIsInstance(body, Body)
        self.assertEqual(piece_at(body, stretch), piece)
        self.assertTrue(kind_of(body, stretch).within(kind))
        self.assertIs(is_lean(body, stretch, plan), True)
        cut = free_cut(body, stretch, plan)
        self.assertEqual(len(words), len(parting(cut)))
        self.assertIsNotNone(unlike(cut, words))
        for end in range(len(words)):
            self.assertEqual(play(body, words[:end]), play_cut(cut, words[:end]))
        if shortest:
            other = shortest_parting(cut, 400)
            self.assertTrue(other == "too many" or len(other) == len(words))
        return told

    def test_the_example(self):
        back, guarded = Plan({}, {"x": "value"}, []), Kind({"x": ["read"]}, ["guard"])
        around, stretch, words = parted_body(TWO, back, guarded)
        self.assertEqual([words, is_lean(around, stretch, back)], [["told", "fail"], True])
        self.need(TWO, back, guarded)

    def marks_around(self, piece, plan, kind):
        """What stands around the piece in what parts it: the first words of the rows, ascending."""
        body, stretch, _ = self.need(piece, plan, kind)
        return sorted(body.row_at(at)[0] for at in body.addresses() if not stands_in(at, stretch))

    def test_each_word_of_a_kind(self):
        piece, none = Piece([("do", "a", [], "x")]), Plan({}, {}, [])
        self.assertEqual(self.marks_around(piece, none, Kind({"x": ["read"]}, [])), ["do"])
        self.assertEqual(self.marks_around(piece, none, Kind({"x": ["strike"]}, [])), ["strike"])
        self.assertEqual(self.marks_around(piece, none, Kind({"x": ["look"]}, [])), ["catch"])
        self.assertIsNone(self.need(piece, none, Kind({"x": ["put", "set", "unset"]}, AROUND)))
        piece = Piece([("do", "a", ["x"], "")])
        self.assertEqual(self.marks_around(piece, none, Kind({}, [])), [])
        value = Plan({"x": "value"}, {}, [])
        self.assertIsNone(self.need(piece, value, Kind({"x": ["read", "look", "put", "set"]}, AROUND)))
        self.assertEqual(self.marks_around(piece, value, Kind({"x": ["unset"]}, [])), [])
        self.assertEqual(self.marks_around(piece, value, Kind({"x": ["strike"]}, [])), ["strike"])
        piece, value = Piece([("do", "a", [], ""), ("do", "b", ["x"], "")]), Plan({"x": "value"}, {}, [])
        # A function puts the body's variable while the call goes on.
        self.assertEqual(self.marks_around(piece, value, Kind({"x": ["put"]}, [])), ["catch"])
        piece = Piece([("catch", "c", "x", "look"), ("do", "b", [], "")])
        state = Plan({"x": "state"}, {"x": "state"}, [])
        self.assertIsNone(self.need(piece, state, Kind({"x": ["read", "strike", "unset"]}, [])) and None)
        self.assertEqual(self.marks_around(piece, state, Kind({"x": ["set"]}, [])), ["do"])

    def test_rows_around(self):
        two = Plan({}, {"x": "value"}, [])
        self.assertEqual(self.marks_around(TWO, two, Kind({"x": ["read"]}, ["guard"])), ["do", "guard"])
        self.assertEqual(self.marks_around(TWO, two, Kind({"x": ["read"]}, ["last"])), ["do", "last"])
        self.assertIsNone(self.need(TWO, two, Kind({"x": ["read"]}, ["loop"])))
        again = Piece([("if", "i", [("do", "a", ["x"], "")], [("do", "b", [], "x")])])
        self.assertEqual(self.marks_around(again, Plan({"x": "value"}, {}, []), Kind({}, ["loop"])), ["loop"])
        shut = Piece([("do", "a", [], "x"), ("yield", "y", [], "")])
        state = Plan({"x": "state"}, {"x": "state"}, ["fail"])
        self.assertTrue("last" in self.marks_around(shut, state, Kind({"x": ["read", "unset"]}, AROUND)))
        told = Plan({}, {"x": "state"}, ["answer"])
        answered = Piece([("if", "i", [("do", "a", [], "x")], []), ("answer", "b", [])])
        self.assertIsNone(self.need(answered, told, Kind({"x": ["read", "unset"]}, ["guard", "loop"])))
        self.assertIsNone(self.need(answered, Plan({"x": "state"}, {"x": "state"}, ["answer", "fail"]), Kind({"x": ["read", "unset"]}, AROUND)))
        self.assertTrue("last" in self.marks_around(answered, Plan({"x": "state"}, {}, ["answer"]), Kind({"x": ["read"]}, AROUND)))

    def test_rounds_that_end_in_all_ways(self):
        # x is handed back nowhere, and is read where the piece comes again.
        for ends, told in [([("leave",)], ["leave"]), ([("again",)], ["again"]), ([("answer", "z", [])], ["answer"]), ([], [])]:
            piece = Piece([("if", "i", [("do", "a", ["x"], "")], [("do", "b", [], "x")]), ("yield", "y", [], ""), *ends])
            for handed in [Plan({"x": "value"}, {}, told), Plan({"x": "state"}, {"x": "state"}, told)]:
                for around in [["loop"], ["loop", "guard"], ["loop", "last"], AROUND, ["guard"], ["last"], []]:
                    for words in [[], ["read"], ["strike", "unset"], ["put"], ["look", "set"], KIND_WORDS]:
                        self.need(piece, handed, Kind({"x": words}, around), shortest=False)

    def test_rows_between_rounds(self):
        # In the first round y is unset, and x is set in the frame alone; in the second one y is set, and x is read.
        piece = Piece([("guard", [("answer", "z", ["y", "x"])], [("do", "a", [], "x")])])
        plan = Plan({"x": "state", "y": "state"}, {}, ["answer"])
        self.assertEqual(self.marks_around(piece, plan, Kind({"y": ["unset", "set"]}, ["loop"])), ["do", "if", "loop"])
        self.assertEqual(self.marks_around(piece, plan, Kind({"y": ["strike", "set"]}, ["loop"]))[-1], "strike")
        self.assertIsNone(self.need(piece, plan, Kind({"y": ["unset", "set"]}, ["guard"])))
        for word in [("leave",), ("again",)]:
            ended = Piece([*piece.rows(), word])
            told = Plan({"x": "state", "y": "state"}, {}, ["answer", word[0]])
            self.assertTrue("if" in self.marks_around(ended, told, Kind({"y": ["unset", "set"]}, ["loop"])))
            self.need(ended, told, Kind({"y": ["unset", "set", "put"], "x": ["put"]}, AROUND))

    def test_a_leave_or_an_again_that_stands_in_no_loop(self):
        for row in [("leave",), ("again",)]:
            piece = Piece([("do", "a", [], "x"), row])
            plan = Plan({}, {}, needed_ways(piece))
            self.assertEqual(self.need(piece, plan, Kind({"x": ["read"]}, ["loop"]))[0].rows()[0][0], "loop")
            self.assertIsNone(self.need(piece, plan, Kind({"x": KIND_WORDS}, ["guard", "last"])))

    def test_the_piece_has_marks_that_may_be_taken(self):
        for marks in ["ab", ["zz", "zy"], ["aa", "ab"], ["cut", "call"], ["x", "f"]]:
            piece = Piece([("do", mark, [], "x") for mark in marks])
            self.need(piece, Plan({}, {}, []), Kind({"x": KIND_WORDS}, AROUND))

    def test_names_that_matter_beside_the_one(self):
        piece = Piece([("do", "a", ["z", "y"], "")])
        body, _, _ = self.need(piece, Plan({"y": "state"}, {}, []), Kind({"y": ["unset"]}, []))
        self.assertTrue("z" in body.given)
        piece = Piece([("catch", "c", "y", "put"), ("strike", "s", "x"), ("do", "d", ["y", "x"], "")])
        self.need(piece, Plan({"x": "state", "y": "state"}, {"y": "state"}, []), Kind({"x": KIND_WORDS, "y": KIND_WORDS}, AROUND))
        self.need(piece, Plan({"x": "value"}, {}, []), Kind({"y": ["unset", "set"], "q": ["read"]}, ["guard"]))

    def test_against_holds_in_made_folds(self):
        told = {True: 0, False: 0}
        for names, many in [(("x",), 260), (("x", "y"), 220), (("x", "y", "z"), 120)]:
            for piece, plan, kind in made_folds(many, names):
                told[self.need(piece, plan, kind) is None] += 1
        self.assertTrue(min(told.values()) > 150, told)

    def test_deep_pieces(self):
        rows = [("do", "a", [], "x"), ("yield", "y", [], "")]
        for word in ["guard", "last", "guard", "last"]:
            rows = [(word, rows, [])]
        rows = [("loop", "l", [*rows, ("if", "i", [("leave",)], [])])]
        piece = Piece(rows)
        for words in [["read"], ["look"], ["strike", "set", "put"]]:
            for around in [[], ["loop"], AROUND]:
                self.need(piece, Plan({}, {}, []), Kind({"x": words}, around), shortest=False)

    def test_need_fit_comes_first(self):
        piece = Piece([("do", "a", ["y"], "x"), ("leave",)])
        for plan, error, held in [(Plan({"z": "value"}, {"b": "state"}, []), NoName, "b"), (Plan({}, {}, ["again"]), Untold, "leave")]:
            with self.assertRaises(error) as caught:
                parted_body(piece, plan, Kind({}, ["loop"]), most=1)
            self.assertEqual([*vars(caught.exception).values()], [held])

    def test_most(self):
        checked = 0
        for piece, plan, kind in made_folds(160):
            if not holds(piece, plan, kind):
                continue
            most = max([len(fold_table(piece, plan, kind, name)) for name in piece.names()], default=1)
            self.assertIsNone(parted_body(piece, plan, kind, most=most))
            if most > 1:
                checked += 1
                with self.assertRaises(TooMany) as caught:
                    parted_body(piece, plan, kind, most=most - 1)
                self.assertEqual(caught.exception.most, most - 1)
        self.assertTrue(checked > 20)
        # The states of the body that is told do not count.
        wide = Piece([("do", "a", [], "x"), *[("do", "b" + mark, [], "") for mark in "cdefgh"]])
        self.assertIsNotNone(parted_body(wide, Plan({}, {}, []), Kind({"x": ["read"]}, []), most=20))

    def test_asking_again(self):
        for piece, plan, kind in made_folds(40):
            told = parted_body(piece, plan, kind)
            if told is not None:
                told[2].append("q")
                other = parted_body(piece, plan, kind)
                self.assertEqual((other[0], other[1], [*other[2], "q"]), told)


if __name__ == "__main__":
    unittest.main()
