"""[92]: what texts were shown from, and texts that are none."""

import unittest

from cutoutpieces.bodies import Body
from cutoutpieces.cuts import Cut
from cutoutpieces.errors import NoText
from cutoutpieces.kinds import Kind
from cutoutpieces.notation import show_body, show_cut, show_deed, show_kind, show_plan, show_row, show_words
from cutoutpieces.plans import Plan
from cutoutpieces.readers import read_body, read_cut, read_deed, read_kind, read_plan, read_row, read_words
from cutoutpieces.rows import frozen
from samples import made_bodies, made_cuts, made_folds, odd_values, rows_deep

READERS = [(read_row, show_row), (read_body, show_body), (read_plan, show_plan), (read_kind, show_kind), (read_cut, show_cut),
           (read_words, show_words), (read_deed, show_deed)]
PLAN = Plan({"x": "value", "y": "state"}, {"x": "state"}, ["fail", "leave"])
DEEDS = [
    ("put", (0,), ("do", "a", ("x",), "")), ("put", (1, 0, 12), ("if", "i", (("leave",),), (("guard", (), (("answer", "z", ()),)),))), ("out", (0,)),
    ("out", (10, 1, 2)), ("given", ()), ("given", ("x",)), ("given", ("a", "b", "c", "d")), ("name", "x", "y"), ("name", "x", "x"), ("mark", "y", "x"),
    ("cut", "f", ((0,), 1), Plan({}, {}, [])), ("cut", "g", ((1, 1, 0), 12), PLAN), ("back", "f"), ("plan", "f", PLAN), ("plan", "f", Plan({}, {}, [])),
]
WORDS = [[], ["told"], ["told", "done", "yes", "no", "fail", "shut"], [("look", 0)], [("put", 12), "told", ("look", 10), ("look", 10 ** 39)]]
KINDS = [Kind({}, []), Kind({"x": ["read"]}, ["loop"]), Kind({"x": ["read", "set"], "y": ["look", "put", "unset"]}, ["guard", "last", "loop"])]


class ReadersTest(unittest.TestCase):
    def none(self, read, text):
        with self.assertRaises(NoText):
            read(text)

    def test_what_was_shown_is_read(self):
        for body in made_bodies(60):
            self.assertEqual(read_body(show_body(body)), body)
            for row in body.rows():
                self.assertEqual(read_row(show_row(row)), row)
        for cut in made_cuts(60):
            told = read_cut(show_cut(cut))
            self.assertEqual([told, told.calls(), told.body], [cut, cut.calls(), cut.body])
            for call in cut.calls():
                self.assertEqual(read_deed(show_deed(("cut", *call))), ("cut", *call))
        for _, plan, kind in made_folds(60):
            self.assertEqual([read_plan(show_plan(plan)), read_kind(show_kind(kind))], [plan, kind])
        for kind in KINDS:
            self.assertEqual(read_kind(show_kind(kind)), kind)
        for words in WORDS:
            told = read_words(show_words(words))
            self.assertEqual(told, words)
            self.assertIsInstance(told, list)
        for deed in DEEDS:
            self.assertEqual(read_deed(show_deed(deed)), deed)
        self.assertEqual(read_deed(show_deed(("given", ["y", "x"]))), ("given", ("x", "y")))

    def test_rows_by_their_form(self):
        rows = [("leave",), ("again",), ("answer", "a", ("x", "x", "y")), ("do", "do", ("do",), "do"), ("yield", "over", (), "else"),
                ("strike", "given", "cut"), ("catch", "look", "put", "look"), ("loop", "over", (("leave",), ("leave",), ("do", "over", (), ""))),
                ("guard", (("again",), ("do", "a", (), "")), (("do", "a", (), ""),))]
        for row in rows:
            self.assertEqual(read_row(show_row(row)), row)
            self.assertEqual(read_deed(show_deed(("put", (0,), row))), ("put", (0,), row))
        lists = ("if", "i", [("do", "a", ["x"], "")], [("last", [], [])])
        self.assertEqual(read_row(show_row(lists)), frozen(lists))

    def test_rows_within_one_another(self):
        # Twenty rows with lists, and twenty-one.
        for word, ends in [("guard", ["other", "over"]), ("last", ["ending", "over"]), ("loop l", ["over"]), ("if i", ["else", "over"])]:
            ahead, behind = word + "\n", "\n".join(ends) + "\n"
            for inner in ["", "do a - -\n"]:
                text = ahead * 20 + inner + behind * 20
                self.assertEqual(show_row(read_row(text)), text)
                self.assertEqual(show_deed(read_deed("put 0\n" + text)), "put 0\n" + text)
                self.none(read_row, ahead * 21 + inner + behind * 21)
                self.none(read_deed, "put 0\n" + ahead * 21 + inner + behind * 21)
        text = "guard\nother\n" * 20 + "do a - -\n" + "over\n" * 20
        self.assertEqual(show_row(read_row(text)), text)
        self.none(read_row, "guard\nother\n" * 21 + "over\n" * 21)
        # Side by side they may be many.
        text = "loop l\n" + "guard\nother\nover\n" * 100 + "over\n"
        self.assertEqual(show_row(read_row(text)), text)
        self.none(read_row, "guard\n" * 1500 + "other\nover\n" * 400)
        self.none(read_row, "loop l\n" * 1400)
        self.assertEqual(read_row(show_row(rows_deep(21)[0])), frozen(rows_deep(21)[0]))
        self.none(read_row, show_row(rows_deep(22)[0]))

    def test_each_text_with_something_otherwise(self):
        texts = [(0, "do ab x,y z\n"), (0, "if i\nleave\nelse\nyield a - -\nover\n"), (0, "catch c x look\n"), (0, "last\nending\nanswer z x\nover\n"),
                 (1, "given x,y\nloop l\ndo a x y\nleave\nover\nstrike s x\n"), (1, "given -\n"), (2, show_plan(PLAN)), (2, "in - back x:value told fail"),
                 (3, show_kind(KINDS[2])), (3, "words x:read around -"),
                 (4, "given x\ndo a x y\ndo b - -\ncut f 0 1 in x:value back y:value told -\ncut g 1 1 in - back - told fail\n"),
                 (5, "told,look:10,put:0"), (5, "-"), (6, "put 0.1.2\nloop l\nleave\nover\n"), (6, "out 1.0.0"), (6, "given a,b"), (6, "name x y"), (6, "back f"),
                 (6, "mark ab c"), (6, "cut f 0.1.1 12 in x:value back - told leave"), (6, "plan f in - back x:state told fail,shut")]
        same = 0
        for k, text in texts:
            read, show = READERS[k]
            self.assertEqual(show(read(text)), text)
            signs = [" ", ",", ":", "-", ".", "\n", "0", "1", "x", "a", "A", "+", "", "\t", "z"]
            others = {text[:at] + sign + text[at + cut:] for at in range(len(text) + 1) for sign in signs for cut in (0, 1)}
            others |= {text[:at] + text[at] + text[at:] for at in range(len(text))}
            others |= {text[:at] + text[at + 1:at + 2] + text[at:at + 1] + text[at + 2:] for at in range(len(text))}
            others |= {text + text, text + "\n", text[:-1], text + " ", " " + text, "\n" + text, text.upper(), text + "\r", text.replace("\n", "\r\n") + " "}
            for other in others - {text}:
                try:
                    told = read(other)
                except NoText:
                    continue
                same += 1
                self.assertEqual(show(told), other)
        self.assertTrue(same > 100)

    def test_lines_left_out_put_in_or_exchanged(self):
        body = Body(["x"], [("do", "a", ["x"], "y"), ("if", "i", [("loop", "l", [("leave",)])], [("guard", [("do", "b", [], "")], [("do", "c", [], "")])])])
        cut = Cut(body, [("f", ((0,), 1), PLAN.with_told([]).with_pair("x", ("value", "none")).with_pair("y", ("none", "value"))), ("g", ((1, 1, 0), 1), Plan({}, {}, []))])
        lines = show_cut(cut).split("\n")[:-1]
        extra = ["over", "else", "other", "ending", "leave", "do q - -", "given -", "", "loop q", "guard", "cut h 1.0.0 1 in - back - told -", "-"]
        read_some = 0
        for k in range(len(lines) + 1):
            others = [lines[:k] + lines[k + 1:], lines[:k] + lines[k + 1:k + 2] + lines[k:k + 1] + lines[k + 2:], lines[:k] + lines[k:k + 1] + lines[k:]]
            for other in others + [lines[:k] + [line] + lines[k:] for line in extra]:
                text = "\n".join(other) + "\n"
                try:
                    told = read_cut(text)
                except NoText:
                    continue
                read_some += 1
                self.assertEqual(show_cut(told), text)
        self.assertTrue(read_some > 10)

    def test_what_no_show_function_returns(self):
        for text in ["", "\n", "do a - -", "do a - - \n", " do a - -\n", "do a  -\n", "do a -\n", "do a - - -\n", "do A - -\n", "do a x,y,x,y -\n", "do a -,x -\n", "do a x, -\n",
                     "do a  - -\n", "do - - -\n", "do a - -\ndo b - -\n", "do a x:y -\n", "do abcdefghi - -\n", "strike s -\n", "strike s\n", "catch c x see\n", "catch c - put\n",
                     "leave \n", "leave x\n", "again\n\n", "answer a\n", "answer a x,y,x,y\n", "if\nelse\nover\n", "if i\nover\n", "if i\nelse\n", "if i\nother\nover\n",
                     "if i x\nelse\nover\n", "loop l\nelse\nover\n", "loop l\n", "loop\nover\n", "guard g\nother\nover\n", "guard\nover\n", "guard\nending\nover\n", "last\nother\nover\n",
                     "over\n", "else\n", "given x\n", "Do a - -\n", "do a - -\r\n", "do a - -\n\n", "if i\n\nelse\nover\n", "skip\n", "do\ta\t-\t-\n"]:
            self.none(read_row, text)
        for text in ["", "\n", "given -", "given\n", "given \n", "given x,y", "given y,x\n", "given x,x\n", "given a,b,c,d,e\n", "given X\n", "given x y\n", "given -,x\n", "given -\n\n",
                     "given -\nleave\n", "given -\ndo a - -\ndo a - -\n", "given -\nanswer a -\ndo b - -\n", "do a - -\n", "given a,b,c,d\ndo m e,f,g h\ndo n i -\n",
                     "given -\n" + "guard\n" * 10 + "do a - -\n" + "other\nover\n" * 10, "given -\n" + "leave\n" * 3, "given -\ncut f 0 1 in - back - told -\n",
                     "given -\n" + "".join("do m" + a + b + " - -\n" for a in "abcdefghijk" for b in "abcdefghij"), "given -\ngiven -\n"]:
            self.none(read_body, text)
        for text in ["", "in - back - told", "in - back - told -\n", "in  back - told -", "in - back - told - ", " in - back - told -", "in x:none back - told -", "in x back - told -",
                     "in x: back - told -", "in :value back - told -", "in x:value,x:value back - told -", "in y:value,x:value back - told -", "in x:value, back - told -",
                     "in - back x:see told -", "in - back - told end", "in - back - told fail,fail", "in - back - told leave,fail", "in - back - told lost", "in - back - told -,fail",
                     "in -,x:value back - told -", "back - in - told -", "in - back - told - told -", "in X:value back - told -", "in x:value:value back - told -", "in - - back told -"]:
            self.none(read_plan, text)
        for text in ["", "words - around", "words  around -", "words - around -\n", "words x around -", "words x: around -", "words x:read+ around -", "words x:set+read around -",
                     "words x:read+read around -", "words y:read,x:read around -", "words x:read,x:set around -", "words x:seen around -", "words X:read around -",
                     "words - around loop,guard", "words - around loop,loop", "words - around if", "around - words -", "words -,x:read around -", "words x:- around -"]:
            self.none(read_kind, text)
        for text in ["", " ", "told ", "told,", ",told", "told,,told", "told told", "-,told", "end", "set", "look", "look:", "look:x", "look:-1", "look:+1", "look:01", "look:1.0",
                     "look: 1", "put:1:2", "see:1", ":1", "Told", "told\n", "look:1_0", "look:" + "1" * 41, "put:00", "given", "look:0x1"]:
            self.none(read_words, text)

    def test_deeds_that_are_none(self):
        for text in ["", "put", "put 0", "put 0\n", "put 0\ndo a - -", "put 0 \ndo a - -\n", "put\ndo a - -\n", "put 0 1\ndo a - -\n", "put 0\ndo a - -\ndo b - -\n", "put 0\n\ndo a - -\n",
                     "put 0.0\ndo a - -\n", "put 00\ndo a - -\n", "put -1\ndo a - -\n", "put .\ndo a - -\n", "put x\ndo a - -\n", "put -\ndo a - -\n", "out", "out ", "out 0 ", "out 0\n",
                     "out 0.0", "out 0.", "out .0.0", "out 0.0.00", "out 0 0", "out -", "out " + "1" * 41, "given", "given x\n", "given y,x", "given x,x", "given a,b,c,d,e", "given -,x",
                     "given x y", "name x", "name x y z", "name x -", "name X y", "mark a", "mark a b\n", "mark a  b", "back", "back -", "back f g", "back f\n", "Back f", "plan f",
                     "plan in - back - told -", "plan f in - back - told end", "plan f in - back - told -\n", "plan f g in - back - told -", "cut f 0 in - back - told -",
                     "cut f 0 0 in - back - told -", "cut f 0 01 in - back - told -", "cut f 0.0 1 in - back - told -", "cut f 0 1 in - back - told", "cut f 0 1 in - back - told -\n",
                     "cut f 0 -1 in - back - told -", "cut F 0 1 in - back - told -", "cut f 0 1", "undo", "redo", "body", "do a - -\n", "in - back - told -", " back f"]:
            self.none(read_deed, text)

    def test_cuts_that_are_none(self):
        body = "given x\ndo a x -\nloop l\ndo b - -\nleave\nover\n"
        call = "cut f 0 1 in x:value back - told -\n"
        other = "cut g 1.0.0 2 in - back - told leave\n"
        self.assertEqual(len(read_cut(body + call + other)), 2)
        for text in [body + other + call, body + call + call, call + body, body + call[:-1], body + call + "\n", body + call.replace("f", "a"), body + call.replace("x:", "y:"),
                     body + call.replace("0", "2"), body + call.replace("1", "2").replace("2 in", "3 in"), body + other.replace("leave", "-"), body + "cut f\n",
                     body + call + other.replace("1.0.0 2", "0 1").replace("leave", "-"), call, body + "back f\n", body + other + "cut f 1 1 in - back - told -\n",
                     body.replace("do b - -\n", call + "do b - -\n"), body + call + "do c - -\n", body + "cut f 0 0 in - back - told -\n", body + "cut  0 1 in - back - told -\n"]:
            self.none(read_cut, text)

    def test_numbers(self):
        for digits in [1, 2, 39, 40]:
            for number in ["1" + "0" * (digits - 1), "9" * digits]:
                self.assertEqual(read_words("look:" + number), [("look", int(number))])
                self.assertEqual(read_deed("out " + number), ("out", (int(number),)))
                self.assertEqual(read_deed("cut f 0.0." + number + " " + number + " in - back - told -")[2], ((0, 0, int(number)), int(number)))
        for digits in [41, 42, 400, 5000, 9000]:
            for number in ["1" + "0" * (digits - 1), "0" * digits, "9" * digits]:
                self.none(read_words, "look:" + number)
                self.none(read_deed, "out " + number)
                self.none(read_deed, "put 0.0." + number + "\nleave\n")
                self.none(read_deed, "cut f 0 " + number + " in - back - told -")
        self.none(read_words, "look:" + "0" * 40)
        self.none(read_cut, "given -\ndo a - -\ncut f 0 " + "1" * 5000 + " in - back - told -\n")
        for number in ["\u0661", "\u00b2", "1\u0661", "\uff11"]:
            self.none(read_words, "look:" + number)

    def test_values_that_are_no_texts(self):
        for thing in odd_values():
            for read, show in READERS:
                try:
                    told = read(thing)
                except NoText:
                    continue
                self.assertEqual(show(told), thing)
        for read, show in READERS:
            for thing in [None, 0, True, b"given -\n", ["given -\n"], ("-",), Body([], []), Plan({}, {}, []), Kind({}, []), read, 10 ** 5000]:
                self.none(read, thing)

    def test_texts_of_other_things(self):
        texts = ["leave\n", "given -\n", "in - back - told -", "words - around -", "told", "back f"]
        for k, (read, show) in enumerate(READERS):
            for text in texts:
                if text == texts[[0, 1, 2, 3, 1, 4, 5][k]]:
                    self.assertEqual(show(read(text)), text)
                else:
                    self.none(read, text)

    def test_long_texts(self):
        for text in ["x," * 5000, "x" * 9999, "do a - -\n" * 1000, "\n" * 9999, " " * 9999, ":" * 9999, "over\n" * 1500, "look:1," * 1400, "0." * 5000, "-" * 9999]:
            for read, _ in READERS:
                self.none(read, text)
        text = ",".join(["told"] * 1500)
        self.assertEqual(read_words(text), ["told"] * 1500)
        text = "out " + ".".join(["1"] * 1501)
        self.assertEqual(read_deed(text), ("out", (1,) * 1501))

    def test_what_is_read_is_new(self):
        told = read_words("told,fail")
        told.append("q")
        self.assertEqual(read_words("told,fail"), ["told", "fail"])


if __name__ == "__main__":
    unittest.main()
