"""[41]: kinds of bodies around a piece."""

import copy
import unittest

from cutoutpieces.bodies import Body
from cutoutpieces.errors import NoStretch, Wrong
from cutoutpieces.kinds import Kind, kind_of
from cutoutpieces.pieces import is_stretch, piece_at, stands_in, stretches
from samples import Dice, made_bodies, odd_values

WORDS = ["look", "put", "read", "set", "strike", "unset"]
AROUND = ["guard", "last", "loop"]


def some_of(dice, things):
    """Some of the things, perhaps twice, in any order."""
    return [dice.one_of(things) for _ in range(dice.below(len(things) + 1))]


def made_kinds(many):
    """So many pairs (words, around) of which Kinds can be made."""
    dice = Dice(5)
    return [({name: some_of(dice, WORDS) for name in some_of(dice, ["x", "y", "z"])}, some_of(dice, AROUND))
            for _ in range(many)]


class MakingTest(unittest.TestCase):
    def raises(self, place, *told):
        with self.assertRaises(Wrong) as held:
            Kind(*told)
        self.assertEqual(held.exception.place, place)

    def test_what_it_tells(self):
        kind = Kind({"y": ["set", "read", "set"], "x": ("unset",), "z": []}, ["loop", "guard", "loop"])
        self.assertEqual([kind.of("y"), kind.of("x"), kind.of("z"), kind.of("w")], [["read", "set"], ["unset"], [], []])
        self.assertEqual([kind.names(), kind.around, len(kind)], [["x", "y"], ("guard", "loop"), 5])
        self.assertEqual(list(kind.words().items()), [("x", ["unset"]), ("y", ["read", "set"])])

    def test_the_least_one(self):
        for kind in [Kind({}, []), Kind({"x": []}, ()), Kind({"x": (), "y": []}, [])]:
            self.assertEqual([kind.names(), kind.words(), kind.around, len(kind)], [[], {}, (), 0])
            self.assertEqual(kind, Kind({}, []))

    def test_all_words(self):
        kind = Kind({"abcdefgh": WORDS}, AROUND)
        self.assertEqual([kind.of("abcdefgh"), kind.around, len(kind)], [WORDS, tuple(AROUND), 9])
        self.assertEqual(Kind({"a": tuple(reversed(WORDS))}, tuple(reversed(AROUND))).words(), {"a": WORDS})
        self.assertEqual(Kind({}, tuple(reversed(AROUND))).around, tuple(AROUND))

    def test_wrong_words(self):
        for thing in odd_values():
            with self.subTest(thing=repr(thing)[:80]):
                if repr(thing) == "{}":
                    self.assertEqual(len(Kind(thing, [])), 0)
                else:
                    self.raises(0, thing, [])
        for thing in [{"x": "read"}, {"x": {"read"}}, {"x": {"read": 1}}, {"x": ["reads"]}, {"x": ["loop"]}, {"x": None},
                      {"x": ["read", None]}, {"x": [["read"]]}, {"": ["read"]}, {"X": ["read"]}, {"abcdefghi": []}, {1: []},
                      {True: ["read"]}, {("x",): []}, {None: []}, {b"x": []}, [("x", ["read"])], {"x": ["read"], "Y": []},
                      {"y": [], "x": ["read", True]}, Kind({}, [])]:
            self.raises(0, thing, [])
            self.raises(0, thing, None)

    def test_wrong_around(self):
        right = ["[]", "()"]
        for thing in odd_values():
            with self.subTest(thing=repr(thing)[:80]):
                if repr(thing) in right:
                    self.assertEqual(Kind({}, thing).around, ())
                else:
                    self.raises(1, {"x": ["read"]}, thing)
        for thing in ["loop", {"loop"}, {"loop": 1}, ["if"], ["loop", "read"], ["loop", None], [["loop"]], [b"loop"], ["Loop"],
                      [True], Kind({}, ["loop"])]:
            self.raises(1, {}, thing)

    def test_length(self):
        for words, around in made_kinds(60):
            many = sum(len(set(told)) for told in words.values()) + len(set(around))
            self.assertEqual(len(Kind(words, around)), many)

    def test_copies_and_new_lists(self):
        words, around = {"y": ["set"], "x": ["read", "look"]}, ["loop"]
        kept = copy.deepcopy([words, around])
        kind = Kind(words, around)
        self.assertEqual([list(words.items()), around], [list(kept[0].items()), kept[1]])
        words["y"].append("put")
        words["z"] = ["put"]
        around.append("last")
        self.assertEqual(kind, Kind(*kept))
        for ask in [lambda: kind.of("x"), kind.names, lambda: kind.words()["x"], kind.words]:
            told = ask()
            first = repr(told)
            told.clear()
            self.assertEqual(repr(ask()), first)
        self.assertIsNot(kind.words()["x"], kind.words()["x"])


class ChangingTest(unittest.TestCase):
    def test_with_words(self):
        kind = Kind({"x": ["read"], "y": ["set"]}, ["loop"])
        self.assertEqual(kind.with_words("x", ["put", "look", "put"]), Kind({"x": ["look", "put"], "y": ["set"]}, ["loop"]))
        self.assertEqual(kind.with_words("w", ("unset",)), Kind({"w": ["unset"], "x": ["read"], "y": ["set"]}, ["loop"]))
        self.assertEqual(kind.with_words("a", ["unset"]).names(), ["a", "x", "y"])
        self.assertEqual(kind.with_words("y", []), Kind({"x": ["read"]}, ["loop"]))
        self.assertEqual(kind.with_words("z", []), kind)
        self.assertEqual(kind, Kind({"x": ["read"], "y": ["set"]}, ["loop"]))

    def test_with_around(self):
        kind = Kind({"x": ["read"]}, ["loop"])
        self.assertEqual(kind.with_around(["last", "guard", "last"]), Kind({"x": ["read"]}, ["guard", "last"]))
        self.assertEqual(kind.with_around(()), Kind({"x": ["read"]}, []))
        self.assertEqual(kind.around, ("loop",))

    def test_arguments_stay(self):
        kind, words, around = Kind({"x": ["read"]}, []), ["set", "put", "set"], ["loop", "guard"]
        one, two = kind.with_words("x", words), kind.with_around(around)
        self.assertEqual([words, around], [["set", "put", "set"], ["loop", "guard"]])
        words.clear()
        around.clear()
        self.assertEqual([one.of("x"), two.around], [["put", "set"], ("guard", "loop")])


def pairs(words, around):
    """What a Kind has, as a set."""
    return {(name, word) for name, told in words.items() for word in told} | {("", word) for word in around}


class OrderTest(unittest.TestCase):
    def test_by_hand(self):
        less, more = Kind({"x": ["read"]}, ["loop"]), Kind({"x": ["read", "set"], "y": ["put"]}, ["guard", "loop"])
        self.assertEqual([less.within(more), more.within(less), less.within(less)], [True, False, True])
        self.assertIs(Kind({"x": ["put"]}, []).within(Kind({"y": ["put"]}, [])), False)
        self.assertIs(Kind({}, ["loop"]).within(Kind({"x": WORDS}, ["guard", "last"])), False)
        self.assertIs(Kind({"x": []}, []).within(Kind({}, [])), True)
        self.assertEqual(less & more, less)
        self.assertEqual(less | more, more)
        self.assertEqual(Kind({"x": ["read", "put"]}, ["loop"]) & Kind({"x": ["put"], "y": ["put"]}, ["last"]),
                         Kind({"x": ["put"]}, []))
        self.assertEqual(Kind({"x": ["read"]}, ["loop"]) | Kind({"x": ["put"], "w": ["set"]}, ["last"]),
                         Kind({"w": ["set"], "x": ["put", "read"]}, ["last", "loop"]))
        self.assertEqual((Kind({"x": ["read"]}, []) | Kind({"a": ["put"]}, [])).names(), ["a", "x"])
        self.assertEqual((Kind({"x": ["read"]}, []) & Kind({"x": ["put"]}, [])).names(), [])

    def test_all_pairs(self):
        held = [(Kind(*told), pairs(*told)) for told in made_kinds(60)]
        for one, these in held:
            for other, those in held:
                for answer, right in [(one.within(other), these <= those), (one == other, these == those),
                                      (one != other, these != those)]:
                    self.assertIs(answer, right)
                both, some = one & other, one | other
                self.assertEqual(pairs(both.words(), both.around), these & those)
                self.assertEqual(pairs(some.words(), some.around), these | those)
                self.assertEqual([len(both), len(some)], [len(these & those), len(these | those)])
                self.assertEqual([both.names(), some.names()], [
                    sorted({name for name, _ in these & those} - {""}), sorted({name for name, _ in these | those} - {""})])
                self.assertEqual([both.within(one), both.within(other), one.within(some), other.within(some)], [True] * 4)
            self.assertEqual([one & one, one | one], [one, one])

    def test_operands_stay(self):
        one, other = Kind({"x": ["read"]}, ["loop"]), Kind({"y": ["put"]}, ["last"])
        one & other, one | other, one == other, one.within(other)
        self.assertEqual([one, other], [Kind({"x": ["read"]}, ["loop"]), Kind({"y": ["put"]}, ["last"])])

    def test_equal(self):
        kind = Kind({"x": ["read", "put"], "y": []}, ["loop"])
        self.assertIs(kind == Kind({"x": ("put", "read", "put")}, ("loop", "loop")), True)
        self.assertIs(kind == Kind({"z": (), "x": ("put", "read")}, ("loop",)), True)
        self.assertIs(Kind({"x": ["put"], "y": ["set"]}, []) == Kind({"y": ["set"], "x": ["put"]}, []), True)
        for other in [Kind({"x": ["read"]}, ["loop"]), Kind({"x": ["read", "put"]}, []), Kind({"y": ["read", "put"]}, ["loop"]),
                      Kind({"x": ["read", "put"]}, ["last"]), *odd_values(), kind.words(), {}, ("loop",)]:
            self.assertIs(kind == other, False)
            self.assertIs(kind != other, True)

    def test_with_something_else(self):
        for other in [None, {}, 1, Body([], [])]:
            with self.assertRaises(TypeError):
                Kind({}, []) & other
            with self.assertRaises(TypeError):
                Kind({}, []) | other


def kind_by_the_words(body, stretch):
    """The Kind, read off the definition name by name."""
    words = {}
    for name in piece_at(body, stretch).names():
        told = [] if name in body.given else ["unset"]
        for address in body.addresses():
            row = body.row_at(address)
            if stands_in(address, stretch):
                continue
            if row[0] in ("do", "yield", "answer") and name in row[2]:
                told.append("read")
            if row[0] in ("do", "yield") and name == row[3]:
                told.append("set")
            if row[0] == "strike" and name == row[2]:
                told.append("strike")
            if row[0] == "catch" and name == row[2]:
                told.append(row[3])
        words[name] = told
    gap, around = stretch[0], []
    for at in range(1, len(gap), 2):
        word = body.row_at(gap[:at])[0]
        if gap[at] == 0 and word in AROUND:
            around.append(word)
    return Kind(words, around)


class KindOfTest(unittest.TestCase):
    def test_the_example(self):
        looped = Body(["x"], [
            ("loop", "more", [("do", "a", ["x"], "y"), ("if", "big", [("leave",)], [])]), ("do", "b", ["y"], "")])
        kind = kind_of(looped, ((0, 0, 0), 2))
        self.assertEqual([kind.words(), kind.around], [{"y": ["read", "unset"]}, ("loop",)])

    def need(self, rows, stretch, words, around, given=()):
        self.assertEqual(kind_of(Body(given, rows), stretch), Kind(words, around))

    def test_words(self):
        piece = ("do", "a", ["x"], "")
        for row, words in [
                (("do", "b", ["y", "x"], ""), ["read"]), (("yield", "b", ["x"], ""), ["read"]), (("do", "b", [], "x"), ["set"]),
                (("yield", "b", [], "x"), ["set"]), (("do", "b", ["x"], "x"), ["read", "set"]), (("strike", "b", "x"), ["strike"]),
                (("catch", "b", "x", "look"), ["look"]), (("catch", "b", "x", "put"), ["put"]), (("answer", "b", ["x"]), ["read"]),
                (("do", "b", ["y"], "z"), []), (("strike", "b", "y"), []), (("catch", "b", "y", "put"), [])]:
            self.need([piece, row], ((0,), 1), {"x": words}, [], given=["x"])
            self.need([piece, row], ((0,), 1), {"x": ["unset", *words]}, [])
            self.need([piece, ("last", [], [("loop", "c", [row])])], ((0,), 1), {"x": words}, [], given=["x"])
            self.need([("if", "c", [piece], [row])], ((0, 0, 0), 1), {"x": words}, [], given=["x"])
            self.need([piece, ("guard", [], []), row], ((0,), 3), {"x": []}, [], given=["x", "y", "z"])

    def test_around(self):
        piece = ("do", "a", [], "")
        for word, lists in [("guard", 2), ("last", 2)]:
            self.need([(word, [piece], [])], ((0, 0, 0), 1), {}, [word])
            self.need([(word, [], [piece])], ((0, 1, 0), 1), {}, [])
            self.need([(word, [("if", "b", [], [piece])], [])], ((0, 0, 0, 1, 0), 1), {}, [word])
            self.need([(word, [("last", [], [piece])], [])], ((0, 0, 0, 1, 0), 1), {}, [word])
            self.need([("loop", "b", [(word, [], [piece])])], ((0, 0, 0, 1, 0), 1), {}, ["loop"])
        self.need([("if", "b", [piece], [])], ((0, 0, 0), 1), {}, [])
        self.need([("loop", "b", [piece])], ((0, 0, 0), 1), {}, ["loop"])
        self.need([("loop", "b", [("guard", [("last", [("loop", "c", [piece])], [])], [])])],
                  ((0, 0, 0, 0, 0, 0, 0, 0, 0), 1), {}, ["guard", "last", "loop"])
        self.need([("loop", "b", [piece])], ((0,), 1), {}, [])
        self.need([("loop", "b", [("guard", [piece], [])])], ((0, 0, 0), 1), {}, ["loop"])

    def test_against_the_definition(self):
        for body in made_bodies(120):
            for stretch in stretches(body):
                self.assertEqual(kind_of(body, stretch), kind_by_the_words(body, stretch))

    def test_no_stretch(self):
        body = Body([], [("do", "a", [], ""), ("do", "b", [], "")])
        for thing in [((0,), 3), ((2,), 1), ((0,), True), [(0,), 1], *odd_values()]:
            if is_stretch(body, thing):
                continue
            with self.assertRaises(NoStretch) as held:
                kind_of(body, thing)
            self.assertIs(held.exception.stretch, thing)

    def test_names_and_marks_exchanged(self):
        names = {"x": "w", "y": "v", "z": "u"}
        for body in made_bodies(40):
            other = body.renamed(names, {mark: "n" + mark[1:][::-1] for mark in body.marks()})
            for stretch in stretches(body):
                one, two = kind_of(body, stretch), kind_of(other, stretch)
                self.assertEqual(two.around, one.around)
                self.assertEqual(two.words(), {names[name]: told for name, told in one.words().items()})
