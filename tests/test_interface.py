"""The interface: names, arguments and kinds as the document lists them; [3], [4]."""

import importlib
import inspect
import unittest

from cutoutpieces import errors
from cutoutpieces.bodies import Body
from cutoutpieces.book import Book
from cutoutpieces.cuts import Cut
from cutoutpieces.kinds import Kind
from cutoutpieces.pieces import Piece
from cutoutpieces.plans import Plan

FUNCTIONS = {
    "words": ["is_integer(thing)", "is_name(thing)", "is_use(thing)", "is_way(thing)", "is_handing(thing)", "are_names(thing, most)", "is_address(thing)"],
    "rows": ["is_row(thing)", "are_rows(thing)", "frozen(row)", "with_lists(row, lists)", "lists_of(row)", "reads(row)", "sets(row)", "names_in(rows)", "marks_in(rows)",
             "renamed(rows, names, marks)", "count(rows)", "depth(rows)"],
    "spots": ["is_spot(body, thing)", "words_at(body, spot)", "begun(body, *, stretches=())", "behind(body, spot, word, names, *, stretches=())", "standings(body, *, most=20000)"],
    "playing": ["play(body, words)"],
    "pieces": ["ways_of(rows)", "stretches(body)", "is_stretch(body, thing)", "stands_in(address, stretch)", "piece_at(body, stretch)"],
    "kinds": ["kind_of(body, stretch)"],
    "plans": ["pair_weight(pair)", "weight(plan)", "all_pairs()", "needed_ways(piece)", "need_fit(piece, plan)"],
    "cutting": ["play_cut(cut, words)", "unlike(cut, words)"],
    "products": ["differing(cut, *, most=20000)", "is_same(cut, *, most=20000)", "parting(cut, *, most=20000)"],
    "tables": ["table(cut, name, *, most=20000)", "is_table(cut, name, thing)"],
    "folds": ["breaking(piece, plan, kind, *, most=20000)", "holds(piece, plan, kind, *, most=20000)", "holds_name(piece, plan, kind, name, *, most=20000)"],
    "foldtables": ["fold_table(piece, plan, kind, name, *, most=20000)", "is_fold_table(piece, plan, kind, name, thing)"],
    "lean": ["leaner(body, stretch)", "is_lean(body, stretch, plan, *, most=20000)", "parted_body(piece, plan, kind, *, most=20000)"],
    "rights": ["pairs(piece, kind, told, name, *, most=20000)", "pairs_in(body, stretch, told, name, *, most=20000)", "rights(piece, kind, told, *, most=20000)",
               "rights_in(body, stretch, told, *, most=20000)"],
    "leasts": ["tellings(piece)", "least_plans(piece, kind, *, most=20000)", "least_plans_in(body, stretch, *, most=20000)", "never(piece, kind, *, most=20000)",
               "never_in(body, stretch, *, most=20000)", "bars(piece, kind, *, most=20000)", "lesser_plans(piece, plan)", "against(piece, plan, kind, *, most=20000)",
               "against_in(body, stretch, plan, *, most=20000)"],
    "lots": ["alone(cut, *, most=20000)", "right_lots(cut, *, most=20000)", "greatest_lots(cut, *, most=20000)", "barring(cut, *, most=20000)", "helping(cut, *, most=20000)",
             "raised(cut)", "joined(cut, one, other, plan)", "parted(cut, mark, many, other, plans)"],
    "breaks": ["least_kinds(piece, told, name, pair, words, *, most=20000)", "greatest_kinds(piece, told, name, pair, words, *, most=20000)",
               "is_frontier(piece, told, name, pair, words, wrong, right, *, most=20000)"],
    "notation": ["show_row(row)", "show_body(body)", "show_plan(plan)", "show_kind(kind)", "show_cut(cut)", "show_words(words)", "show_signs(signs)", "show_deed(deed)"],
    "readers": ["read_row(text)", "read_body(text)", "read_plan(text)", "read_kind(text)", "read_cut(text)", "read_words(text)", "read_deed(text)"],
}

RUN = ["go(word)", "back()", "signs()", "words()", "variables()", "copied()", "__len__()", "__eq__(other)"]
# A property is told without parentheses.
CLASSES = {
    "bodies": {"Body(given, rows)": ["given", "rows()", "addresses()", "gaps()", "names()", "marks()", "row_at(address)", "rows_from(gap)", "at_mark(mark)", "put(gap, row)", "out(address)",
                                     "opened(address, number)", "given_names(names)", "renamed(names, marks)", "__len__()", "__eq__(other)", "__contains__(mark)"]},
    "playing": {"Run(body)": [*RUN, "spot", "body"]},
    "pieces": {"Piece(rows)": ["rows()", "names()", "marks()", "ways()", "__len__()", "__eq__(other)"]},
    "kinds": {"Kind(words, around)": ["of(name)", "names()", "words()", "around", "with_words(name, words)", "with_around(around)", "within(other)", "__len__()", "__eq__(other)",
                                      "__and__(other)", "__or__(other)"]},
    "plans": {"Plan(ins, backs, told)": ["names()", "ins()", "backs()", "told", "with_pair(name, pair)", "with_told(told)", "within(other)", "__eq__(other)", "__getitem__(name)"]},
    "cuts": {"Cut(body, calls)": ["body", "calls()", "marks()", "call(mark)", "with_call(mark, stretch, plan)", "without(mark)", "with_plan(mark, plan)", "__len__()", "__eq__(other)",
                                  "__contains__(mark)"]},
    "cutting": {"CutRun(cut)": [*RUN, "spot", "body", "cut", "frame()"]},
    "book": {"Book(body)": ["first", "cut", "do(deed)", "undo()", "redo()", "past(many)", "copied()", "trial(act)", "log()", "is_same(*, most=20000)", "parting(*, most=20000)",
                            "__len__()", "__eq__(other)", "__contains__(mark)", "__getitem__(mark)", "__setitem__(mark, plan)"]},
    "desk": {"Desk(body)": ["execute(line)"]},
}

ERRORS = ["Wrong(place)", "Full(limit)", "Deep(limit)", "Many(limit)", "Twice(mark)", "NotLast(address)", "NoLoop(address)", "NoRow(address)", "NoGap(gap)", "NoMark(mark)", "NoSpot(at)",
          "BadWord(index)", "NoStretch(stretch)", "NoName(name)", "Untold(way)", "BadMark(mark)", "Overlap(mark)", "TooMany(most)", "BadDeed()", "Refused(deed)", "Nothing()", "NoEntry(many)",
          "NoText()", "NoCommand()"]


def told_as(name, function, bound):
    """A signature as it is written in the interface, without the object of a method."""
    told = str(inspect.signature(function))
    for ahead in ["(self, ", "(self"]:
        if bound and told.startswith(ahead):
            return name + "(" + told[len(ahead):]
    return name + told


class InterfaceTest(unittest.TestCase):
    def test_functions(self):
        for file, listed in FUNCTIONS.items():
            module = importlib.import_module("cutoutpieces." + file)
            for told in listed:
                function = vars(module)[told.split("(")[0]]
                self.assertTrue(inspect.isfunction(function))
                self.assertEqual([function.__module__, told_as(function.__name__, function, False)], ["cutoutpieces." + file, told])

    def test_classes(self):
        for file, listed in CLASSES.items():
            module = importlib.import_module("cutoutpieces." + file)
            for told, methods in listed.items():
                held = vars(module)[told.split("(")[0]]
                self.assertEqual(held.__module__, "cutoutpieces." + file)
                self.assertEqual(told_as(held.__name__, held.__init__, True), told)
                for method in methods:
                    own = vars(held)[method.split("(")[0]]
                    if "(" not in method:
                        self.assertIsInstance(own, property)
                    elif method.startswith("__"):
                        self.assertEqual(len(inspect.signature(own).parameters), method.count(",") + 1 + ("()" not in method))
                    else:
                        self.assertEqual(told_as(own.__name__, own, True), method)
        self.assertEqual(Book.MOST, 200)
        self.assertEqual(vars(Book)["MOST"], 200)

    def test_errors(self):
        self.assertEqual([errors.PieceError.__bases__, sorted(name for name, held in vars(errors).items() if inspect.isclass(held) and name != "PieceError")],
                         [(ValueError,), sorted(told.split("(")[0] for told in ERRORS)])
        for told in ERRORS:
            name, fields = told[:-1].split("(")
            held = vars(errors)[name]
            self.assertEqual(held.__bases__, (errors.PieceError,))
            given = [{"any": ["value"]} for _ in fields.split(", ") if fields]
            for field, thing in zip(fields.split(", "), given):
                self.assertIs(getattr(held(*given), field), thing)
            self.assertIsInstance(held(*given), ValueError)

    def test_the_cells_can_be_imported(self):
        self.assertTrue(importlib.import_module("cutoutpieces.cells"))

    def test_objects_are_equal_to_nothing_else(self):
        body = Body(["x"], [("do", "a", ["x"], "")])
        things = [body, Piece(body.rows()), Kind({"x": ["read"]}, []), Plan({"x": "value"}, {}, []), Cut(body, []), Book(body)]
        for k, thing in enumerate(things):
            for i, other in enumerate(things):
                self.assertIs(thing == other, k == i)


if __name__ == "__main__":
    unittest.main()
