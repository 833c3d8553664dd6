"""[93]: desks, which are worked with by lines of text."""

import unittest

from cutoutpieces.bodies import Body
from cutoutpieces.book import Book
from cutoutpieces.cuts import Cut
from cutoutpieces.cutting import play_cut
from cutoutpieces.desk import Desk
from cutoutpieces.errors import NoCommand, PieceError, Wrong
from cutoutpieces.kinds import kind_of
from cutoutpieces.leasts import least_plans_in
from cutoutpieces.notation import show_body, show_cut, show_deed, show_kind, show_plan, show_signs, show_words
from cutoutpieces.pieces import piece_at, stretches
from cutoutpieces.plans import Plan
from cutoutpieces.playing import Run, play
from cutoutpieces.products import parting
from samples import Dice, Maker, made_bodies, made_plan, odd_values


def do(mark, args=(), name=""):
    return ("do", mark, args, name)


def small():
    return Desk(Body(["x"], [do("a", ["x"], "y"), ("guard", [do("b", ["y"], "x"), do("c")], []), do("d", ["x"])]))


def wide_body():
    """A Body with more than twenty thousand states of x: which names may be put and are set, at each wait."""
    rows = [("if", "i" + name, [("catch", "c" + name, name, "put")], []) for name in "abcdefg"]
    return Body(["x"], [("loop", "l", rows), do("r", ["x"])])


class DeskTest(unittest.TestCase):
    def no_command(self, desk, line):
        with self.assertRaises(NoCommand):
            desk.execute(line)

    def test_the_example(self):
        desk = Desk(Body(["x"], [("do", "a", [], "x")]))
        self.assertEqual([desk.execute("least 0 1"), desk.execute("cut f 0 1 in - back - told -"), desk.execute("playcut told")],
                         ["in - back - told -", "ok", "do a -\nend end\n"])

    def test_made_of_a_body(self):
        for thing in odd_values():
            if isinstance(thing, Body):
                self.assertEqual(Desk(thing).execute("body"), show_body(thing))
                continue
            with self.assertRaises(Wrong) as caught:
                Desk(thing)
            self.assertEqual(caught.exception.place, 0)

    def test_each_command(self):
        desk = small()
        body = "given x\ndo a x y\nguard\ndo b y x\ndo c - -\nother\nover\ndo d x -\n"
        for line, answer in [
            ("body", body), ("cut", body), ("log", "0"), ("same", "yes"), ("parting", "same"), ("undo", "refused"), ("redo", "refused"),
            ("play -", "do a 0\n"), ("play told,told", "do a 0\ndo b 1\ndo c -\n"), ("playcut told,fail", "do a 0\ndo b 1\ndo d 0\n"),
            ("ways 1.0.0 2", "end,fail"), ("kind 1.0.0 2", "words x:read,y:set+unset around guard"), ("least 1.0.0 2", "in x:value,y:value back x:value told fail"),
            ("cut f 1.0.0 2 in x:value,y:value back x:value told fail", "ok"), ("log", "1"), ("same", "yes"), ("parting", "same"),
            ("cut", body + "cut f 1.0.0 2 in x:value,y:value back x:value told fail\n"), ("body", body), ("plan f in y:value back x:value told -", "ok"),
            ("same", "no"), ("parting", "told,told,fail"), ("playcut told,told,fail", "do a 0\ndo b 1\ndo c -\ndo d 0\n"), ("play told,told,fail", "do a 0\ndo b 1\ndo c -\ndo d 2\n"),
            ("undo", "plan f in y:value back x:value told -"), ("same", "yes"), ("redo", "plan f in y:value back x:value told -"), ("same", "no"),
            ("mark f call", "ok"), ("name y w", "ok"), ("given w,x", "ok"), ("out 0", "ok"), ("put 0\nyield n - w\n", "ok"), ("log", "7"),
            ("cut", "given w,x\nyield n - w\nguard\ndo b w x\ndo c - -\nother\nover\ndo d x -\ncut call 1.0.0 2 in w:value back x:value told -\n"),
            ("ways 0 1", "end,fail,shut"), ("undo", "put 0\nyield n - w\n"), ("undo", "out 0"), ("redo", "out 0"), ("redo", "put 0\nyield n - w\n"), ("redo", "refused"),
            ("back call", "ok"), ("cut", "given w,x\nyield n - w\nguard\ndo b w x\ndo c - -\nother\nover\ndo d x -\n"), ("undo", "back call"), ("undo", "put 0\nyield n - w\n"),
            ("undo", "out 0"), ("undo", "given w,x"), ("undo", "name y w"), ("undo", "mark f call"), ("log", "2"),
        ]:
            self.assertEqual(desk.execute(line), answer, line)

    def test_least_plans(self):
        desk = Desk(Body([], [("catch", "l", "x", "look"), do("a", [], "x"), do("b")]))
        self.assertEqual(desk.execute("least 1 2"), "never")
        self.assertEqual(desk.execute("least 1 1"), "in - back x:value told -")
        self.assertEqual(desk.execute("least 2 1"), "in - back - told -")

    def test_refused(self):
        desk = small()
        desk.execute("cut f 0 1 in x:value back y:value told -")
        held = [desk.execute("cut"), desk.execute("log")]
        for line in ["out 3", "out 0", "put 4\ndo n - -\n", "put 0\ndo a - -\n", "put 0\nleave\n", "name x y", "name q w", "mark a b", "mark q w", "cut f 2 1 in - back - told -",
                     "cut g 0 1 in - back - told -", "cut g 2 2 in - back - told -", "cut a 2 1 in - back - told -", "cut g 2 1 in y:value back - told -", "back g", "plan g in - back - told -",
                     "plan f in z:value back - told -", "play no", "play told,told,look:0", "playcut done", "play told,fail,fail,fail", "ways 3 1", "ways 0 4", "ways 1.0.0 3", "kind 0.0.0 1",
                     "least 9 9", "least 1.1.0 1", "ways 0 " + "9" * 40, "redo"]:
            self.assertEqual(desk.execute(line), "refused", line)
            self.assertEqual([desk.execute("cut"), desk.execute("log")], held)
        desk.execute("undo")
        for line in ["out 3", "back g"]:
            self.assertEqual(desk.execute(line), "refused")
        self.assertEqual(desk.execute("redo"), "cut f 0 1 in x:value back y:value told -")

    def test_refused_where_the_log_is_full(self):
        desk = Desk(Body([], [do("a")]))
        for k in range(200):
            self.assertEqual(desk.execute("given x" if k % 2 else "given -"), "ok")
        self.assertEqual([desk.execute("given -"), desk.execute("out 0"), desk.execute("log")], ["refused", "refused", "200"])
        self.assertEqual([desk.execute("undo"), desk.execute("given a"), desk.execute("log")], ["given x", "ok", "200"])

    def test_refused_where_there_are_too_many_states(self):
        desk = Desk(wide_body())
        self.assertEqual([desk.execute("same"), desk.execute("parting")], ["yes", "same"])
        self.assertEqual(desk.execute("cut f 1 1 in x:value back - told -"), "ok")
        self.assertEqual([desk.execute("same"), desk.execute("parting"), desk.execute("least 1 1")], ["refused"] * 3)
        self.assertEqual([desk.execute("log"), desk.execute("ways 1 1")], ["1", "end,fail"])

    def test_no_command(self):
        desk = small()
        desk.execute("given -")
        desk.execute("undo")
        held = [desk.execute("cut"), desk.execute("log")]
        for line in odd_values() + [
            "", " ", "undo ", " undo", "Undo", "undo\n", "redo x", "body\n", "cut ", "cut\n", "log 1", "same yes", "parting -", "play", "play ", "play  told", "play told ", "play told\n",
            "play Told", "play end", "play told,", "playcut", "playcut x", "playcut look", "ways", "ways 0", "ways 0 1 ", "ways 0  1", "ways 0 1 1", "ways 0.0 1", "ways 0 0", "ways 0 01", "ways 00 1",
            "ways 0 -1", "ways - 1", "ways x 1", "ways 0 x", "ways 0 " + "1" * 41, "kind", "kind 0", "kind 1 0.0.0", "least", "least 0,1", "least 0 1\n", "least 0\n1", "put 0", "put 0\n", "put 0\ndo n - -",
            "put 0\nover\n", "out", "out x", "out 0.0", "given", "given x,x", "name x", "mark a", "cut f 0 1", "cut f 0 0 in - back - told -", "cut f 0 1 in - back - told end", "back", "plan f",
            "do a - -\n", "in - back - told -", "given -\n", "words - around -", "quit", "help", "undo;redo", "undo\nredo", "same\n", "ways\t0\t1", "-", "told",
        ]:
            if line not in ("look", "put") or isinstance(line, str):
                self.no_command(desk, line)
            self.assertEqual([desk.execute("cut"), desk.execute("log")], held)
        self.assertEqual(desk.execute("redo"), "given -")

    def test_against_a_book(self):
        told = {"ok": 0, "refused": 0}
        for k, body in enumerate(made_bodies(60, ("x", "y"))):
            dice, maker = Dice(k), Maker(k, ["x", "y"])
            maker.marks = 300
            desk, book = Desk(body), Book(body)
            for _ in range(12):
                body = book.cut.body
                stretch = dice.one_of(stretches(body)) if len(body) else ((0,), 1)
                plan = made_plan(piece_at(body, stretch), dice) if len(body) else Plan({}, {}, [])
                mark = dice.one_of(["f", "g", "h"])
                deed = dice.one_of([("put", dice.one_of(body.gaps()), maker.row(2, 2, True)), ("out", dice.one_of(body.addresses() or [(0,)])), ("given", [dice.one_of(["x", "y", "z"])]),
                                    ("name", dice.one_of("xyz"), dice.one_of("xyzw")), ("mark", dice.one_of(["f", "g", *body.marks()]), "n" + maker.mark()),
                                    ("cut", mark, stretch, plan), ("cut", mark, stretch, plan), ("back", mark), ("plan", mark, plan)])
                try:
                    book.do(deed)
                    answer = "ok"
                except PieceError:
                    answer = "refused"
                told[answer] += 1
                self.assertEqual(desk.execute(show_deed(deed)), answer)
                self.need_all(desk, book, dice)
        self.assertTrue(min(told.values()) > 100, told)

    def need_all(self, desk, book, dice):
        cut, body = book.cut, book.cut.body
        self.assertEqual([desk.execute("cut"), desk.execute("body"), desk.execute("log")], [show_cut(cut), show_body(body), str(len(book))])
        if dice.below(4):
            return
        words = parting(cut)
        self.assertEqual([desk.execute("same"), desk.execute("parting")], ["yes", "same"] if words is None else ["no", show_words(words)])
        run = Run(body)
        for word in ["told", "yes", "done", "fail", "told", ("look", 0), "no", "told"]:
            try:
                run.go(word)
            except PieceError:
                continue
        self.assertEqual(desk.execute("play " + show_words(run.words())), show_signs(play(body, run.words())))
        try:
            answer = show_signs(play_cut(cut, run.words()))
        except PieceError:
            answer = "refused"
        self.assertEqual(desk.execute("playcut " + show_words(run.words())), answer)
        for stretch in stretches(body)[::7]:
            text = ".".join(map(str, stretch[0])) + " " + str(stretch[1])
            self.assertEqual(desk.execute("ways " + text), ",".join(piece_at(body, stretch).ways()))
            self.assertEqual(desk.execute("kind " + text), show_kind(kind_of(body, stretch)))
        for stretch in stretches(body)[:1]:
            text = ".".join(map(str, stretch[0])) + " " + str(stretch[1])
            self.assertEqual(desk.execute("least " + text), ";".join(map(show_plan, least_plans_in(body, stretch))) or "never")

    def test_undo_and_redo_against_a_book(self):
        for k, body in enumerate(made_bodies(20, ("x",))):
            dice, desk, book = Dice(k), Desk(body), Book(body)
            for _ in range(25):
                ask = dice.below(5)
                if ask < 2:
                    deed = dice.one_of([("given", ()), ("given", ("x",)), ("out", (0,)), ("mark", dice.one_of(["f", *body.marks()]), "q" * (1 + dice.below(8))), ("cut", "f", ((0,), 1), Plan({}, {}, ["fail"]))])
                    try:
                        book.do(deed)
                    except PieceError:
                        continue
                    self.assertEqual(desk.execute(show_deed(deed)), "ok")
                    continue
                try:
                    answer = show_deed(book.undo() if ask < 4 else book.redo())
                except PieceError:
                    answer = "refused"
                self.assertEqual(desk.execute("undo" if ask < 4 else "redo"), answer)
                self.assertEqual(desk.execute("cut"), show_cut(book.cut))

    def test_two_desks_by_turns(self):
        one, other = small(), small()
        self.assertEqual([one.execute("out 0"), other.execute("given -"), one.execute("log"), other.execute("log")], ["ok", "ok", "1", "1"])
        self.assertEqual([one.execute("undo"), other.execute("undo"), one.execute("undo")], ["out 0", "given -", "refused"])
        self.assertEqual([other.execute("redo"), one.execute("redo"), other.execute("body"), one.execute("body").split("\n")[0]], ["given -", "out 0", other.execute("cut"), "given x"])
        body = Body([], [do("a"), do("b")])
        one, other = Desk(body), Desk(body)
        one.execute("out 0")
        self.assertEqual([one.execute("body"), other.execute("body"), show_body(body)], ["given -\ndo b - -\n", show_body(body), "given -\ndo a - -\ndo b - -\n"])

    def test_asking_changes_nothing(self):
        desk = small()
        desk.execute("cut f 0 1 in x:value back y:value told -")
        lines = ["body", "cut", "log", "same", "parting", "play told", "playcut fail", "ways 0 1", "kind 0 1", "least 0 1"]
        first = [desk.execute(line) for line in lines]
        self.assertEqual([desk.execute(line) for line in lines[::-1]], first[::-1])
        self.assertEqual(Cut(Body([], []), []), Cut(Body([], []), []))


if __name__ == "__main__":
    unittest.main()
