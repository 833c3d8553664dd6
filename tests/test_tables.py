"""[62]: tables of states that are closed."""

import itertools
import unittest

from cutoutpieces.bodies import Body
from cutoutpieces.cuts import Cut
from cutoutpieces.errors import TooMany
from cutoutpieces.pieces import piece_at
from cutoutpieces.plans import Plan
from cutoutpieces.products import differing
from cutoutpieces.tables import is_table, table
from cutreference import searched
from samples import Dice, made_cuts, odd_values

SMALL = Cut(Body([], [("do", "a", [], "x"), ("do", "z", ["x"], "")]), [("call", ((0,), 1), Plan({}, {"x": "value"}, []))])
EQUAL = ("=", False, False)
# A function of a frame that is over can put x, and x is handed neither in nor back.
CAUGHT = Cut(Body(["x", "y"], [
    ("loop", "l", [("catch", "c", "x", "put"), ("last", [("yield", "d", ["y"], "")], [("do", "e", [], "x")])])]),
    [("f", ((0, 0, 0), 2), Plan({"y": "state"}, {}, []))])


def changed(state, at, value):
    """A state with another part."""
    return (*state[:at], value, *state[at + 1:])


def same(thing, other):
    """Whether two values are equal and look the same."""
    return repr(thing) == repr(other)


class TableTest(unittest.TestCase):
    def test_the_example(self):
        states = table(SMALL, "x")
        self.assertEqual(
            [len(states), states[0], is_table(SMALL, "x", states), is_table(SMALL, "x", states[1:])],
            [5, (((), ("end",)), ("x",), (), (EQUAL, (), (), False)), True, False])
        self.assertEqual(states[1:], [
            (((), ("fail",)), (), (), (EQUAL, (), (), False)), (((), ("fail",)), ("x",), (), (EQUAL, (), (), False)),
            (((0,), ()), (), (), (EQUAL, EQUAL, (), False)), (((1,), ()), ("x",), (), (EQUAL, (), (), False))])

    def test_none_where_something_is_unlike(self):
        cut = SMALL.with_plan("call", Plan({}, {}, []))
        self.assertIsNone(table(cut, "x"))
        for states in [table(SMALL, "x"), []]:
            self.assertIs(is_table(cut, "x", states), False)
        cut = Cut(Body(["x"], [("catch", "c", "x", "look")]), [("f", ((0,), 1), Plan({}, {}, []))])
        self.assertIsNone(table(cut, "x"))
        state = (((), ("end",)), ("x",), (), (EQUAL, (), ("-", True, False), False))
        self.assertIs(is_table(cut, "x", [state, changed(state, 3, (EQUAL, (), (), False))]), False)
        cut = Cut(Body(["x"], [("answer", "c", ["x"])]), [("f", ((0,), 1), Plan({}, {}, ["answer"]))])
        self.assertIsNone(table(cut, "x"))
        self.assertIs(is_table(cut, "x", [changed(state, 3, (EQUAL, (), (), False))]), False)

    def test_of_all_words(self):
        # Each table is what is told by all pairs of runs, whichever frame is watched.
        checked = 0
        for names, many in [(("x",), 160), (("x", "y"), 120), (("x", "y", "z"), 30)]:
            for cut in made_cuts(many, names):
                pairs, words = searched(cut, 300)
                if words is not None:
                    continue
                checked += 1
                for name in cut.body.names():
                    states = sorted(set().union(*[pair.states(name) for pair in pairs]))
                    self.assertEqual(table(cut, name), states)
        self.assertTrue(checked > 120)

    def test_names_that_differ_have_none(self):
        for cut in made_cuts(80):
            differ = differing(cut)
            for name in cut.body.names():
                self.assertIs(table(cut, name) is None, name in differ)

    def test_tables_are_closed(self):
        seen = 0
        for k, cut in enumerate(made_cuts(70)):
            dice = Dice(k)
            for name in cut.body.names():
                states = table(cut, name)
                if states is None or len(states) > 60:
                    continue
                seen += 1
                self.assertIsInstance(states, list)
                self.assertEqual(states, sorted(set(states)))
                self.assertIs(is_table(cut, name, states), True)
                mixed = list(states) + [dice.one_of(states) for _ in range(4)]
                mixed.sort(key=lambda state: str(state)[::-1])
                self.assertIs(is_table(cut, name, mixed), True)
                self.assertIs(is_table(cut, name, states[::-1]), True)
                self.assertIs(is_table(cut, name, tuple(states)), False)
                for at in range(len(states)):
                    self.assertIs(is_table(cut, name, states[:at] + states[at + 1:]), False)
        self.assertTrue(seen > 40)

    def test_more_states_than_needed(self):
        states = table(SMALL, "x")
        # Nobody comes to these, but what comes from them is there, too.
        more = [(spot, (), (), (EQUAL, (), (), False)) for spot in [((1,), ()), ((), ("end",))]]
        self.assertIs(is_table(SMALL, "x", [*more, *states]), True)
        self.assertIs(is_table(SMALL, "x", [*more[:1], *states]), False)
        more = (((1,), ()), ("x",), (), (("+", False, False), (), (), False))
        ends = [(((), (way,)), ("x",), (), more[3]) for way in ("end", "fail")]
        # The row at the spot needs x, but no step leads there.
        self.assertIs(is_table(SMALL, "x", [more, *ends, *states]), True)
        self.assertIs(is_table(SMALL, "x", [more, ends[0], *states]), False)

    def test_puts_are_steps(self):
        base = table(SMALL, "x")
        end = (((), ("end",)), ("x",), ("x",), (("=", False, True), (), (), False))
        self.assertIs(is_table(SMALL, "x", [end, *base]), True)
        unset = changed(end, 1, ())
        self.assertIs(is_table(SMALL, "x", [unset, *base]), False)
        self.assertIs(is_table(SMALL, "x", [unset, end, *base]), True)
        elder = changed(end, 3, (EQUAL, (), ("=", False, True), False))
        behind = changed(end, 3, (("+", False, False), (), ("=", False, True), False))
        self.assertIs(is_table(SMALL, "x", [elder, *base]), False)
        self.assertIs(is_table(SMALL, "x", [elder, behind, *base]), True)
        others = changed(end, 3, (EQUAL, (), (), True))
        behind = changed(end, 3, (("+", False, False), (), (), True))
        self.assertIs(is_table(SMALL, "x", [others, *base]), False)
        self.assertIs(is_table(SMALL, "x", [others, behind, *base]), True)
        # A name that can be put, but that no cell can be put by, is as it is.
        self.assertIs(is_table(SMALL, "x", [(((), ("end",)), (), ("x",), (EQUAL, (), (), False)), *base]), True)

    def test_puts_of_other_names(self):
        cut = Cut(Body(["x"], [("do", "a", ["x", "y"], "")]), [])
        end = (((), ("fail",)), ("x",), (), (EQUAL, (), (), False))
        self.assertEqual(table(cut, "x"), [end])
        with_put = changed(end, 2, ("y",))
        both = changed(with_put, 1, ("x", "y"))
        self.assertIs(is_table(cut, "x", [with_put, end]), False)
        self.assertIs(is_table(cut, "x", [with_put, both, end]), True)

    def test_looks_are_unlike(self):
        base = table(SMALL, "x")
        for at, cell in itertools.product((0, 2), [("+", True, False), ("-", True, False), ("=", True, False)]):
            cells = [EQUAL, (), (), False]
            cells[at] = cell
            state = (((), ("end",)), ("x",), (), tuple(cells))
            self.assertIs(is_table(SMALL, "x", [state, *base]), cell[0] == "=")

    def test_spots_to_which_no_run_comes(self):
        cut = Cut(Body(["x"], [("last", [("do", "a", [], "")], [("do", "b", [], "")])]), [("f", ((0, 1, 0), 1), Plan({}, {}, []))])
        base = table(cut, "x")
        states = [(((0, 1, 0), ("answer",)), ("x",), (), (EQUAL, EQUAL, (), False)), (((), ("answer",)), ("x",), (), (EQUAL, (), (), False))]
        self.assertIs(is_table(cut, "x", [*base, *states]), True)
        self.assertIs(is_table(cut, "x", [*base, states[0]]), False)
        self.assertIs(is_table(cut, "x", [*base, *states, changed(states[0], 0, ((0, 1, 0), ("again",)))]), False)
        # A strike that waits although its name is unset by now.
        cut = Cut(Body(["x"], [("strike", "s", "x")]), [])
        base = table(cut, "x")
        odd = (((0,), ()), (), (), (EQUAL, (), (), False))
        self.assertIs(is_table(cut, "x", [odd, *base]), False)
        self.assertIs(is_table(cut, "x", [odd, (((), ("fail",)), (), (), (EQUAL, (), (), False)), *base]), True)

    def test_the_form_of_states(self):
        states = table(CAUGHT, "x")
        self.assertIs(is_table(CAUGHT, "x", states), True)
        state = next(state for state in states if state[0][0] == (0, 0, 1, 0, 0) and state[2] == ("x",))
        self.assertTrue(state[3][1] != ())
        spot, names, puts, cells = state
        body, frame, elder, others = cells
        bad = [
            spot[0], (spot[0],), [*spot], (list(spot[0]), spot[1]), ((0, 0, 1), ()), ((9,), ()), ((), ()),
            ((), ("leave",)), (spot[0], ("end",)), ((False, 0, 1, 0, 0), ()), (spot[0], [])]
        for other in bad:
            self.assertIs(is_table(CAUGHT, "x", [*states, changed(state, 0, other)]), False)
        for at in (1, 2):
            for other in [("y", "x"), ("x", "x"), ["x", "y"], ("z",), (), None, "xy", ("x", 0), ("x", "y", "y"), {"x": True}, (("x",),)]:
                if other == state[at]:
                    continue
                got = is_table(CAUGHT, "x", [*states, changed(state, at, other)])
                if other not in [(), ("x",), ("y",), ("x", "y")]:
                    self.assertIs(got, False)
        for other in [
                (body, (), elder, others), (body, frame, elder), (body, frame, elder, others, others), [body, frame, elder, others],
                ((), frame, elder, others), (body, frame, elder, 0), (body, frame, elder, None), (body, frame, [], others),
                (("=", 0, False), frame, elder, others), (("=", False, 1), frame, elder, others), (("==", False, False), frame, elder, others),
                (("", False, False), frame, elder, others), (["=", False, False], frame, elder, others), (("=", False), frame, elder, others),
                (body, ("=", False, False, False), elder, others), (body, (frame,), elder, others), (body, frame, None, others)]:
            self.assertIs(is_table(CAUGHT, "x", [*states, changed(state, 3, other)]), False)
        for thing in [state[:3], (*state, 0), list(state), {}, (state,), [state]]:
            self.assertIs(is_table(CAUGHT, "x", [*states, thing]), False)
        # No "-" where the name is not set.
        base = table(SMALL, "x")
        for cells in [(("-", False, False), (), (), False), (EQUAL, (), ("-", False, False), False)]:
            self.assertIs(is_table(SMALL, "x", [*base, (((), ("end",)), (), (), cells)]), False)
            self.assertIs(is_table(SMALL, "x", [*base, (((), ("end",)), ("x",), (), cells)]), True)

    def test_names_are_ascending_and_of_the_body(self):
        cut = Cut(Body(["x", "y", "z"], []), [])
        base = table(cut, "x")
        for at in (1, 2):
            for names, good in [((), True), (("x",), True), (("x", "y", "z"), True), (("x", "z"), True), (("x", "x"), False),
                                (("y", "x"), False), (("x", "z", "y"), False), (("y", "x", "z"), False), (("x", "w"), False),
                                (["x"], False), (("x", 0), False), ("xy", False), (("x", "y", "y"), False), (("",), False)]:
                more = [changed(base[0], at, names)]
                if at == 2 and good:
                    # All names are set there, so putting one changes nothing.
                    self.assertEqual(base[0][1], ("x", "y", "z"))
                self.assertIs(is_table(cut, "x", [*base, *more]), good)

    def test_frames_stand_just_where_calls_go_on(self):
        base = table(SMALL, "x")
        self.assertIs(is_table(SMALL, "x", [*base, (((0,), ()), (), (), (EQUAL, (), (), False))]), False)
        self.assertIs(is_table(SMALL, "x", [*base, (((1,), ()), ("x",), (), (EQUAL, EQUAL, (), False))]), False)
        self.assertIs(is_table(SMALL, "x", [*base, (((), ("end",)), ("x",), (), (EQUAL, EQUAL, (), False))]), False)

    def test_any_value(self):
        states = table(SMALL, "x")
        for value in odd_values():
            self.assertIs(is_table(SMALL, "x", value), False)
            self.assertIs(is_table(SMALL, "x", [*states, value]), False)
            for state in [states[0], states[3]]:
                for at in range(4):
                    other = changed(state, at, value)
                    # No name set behind the end is a state, too, and there are no steps from it.
                    if any(same(other, held) for held in [*states, changed(states[0], 1, ())]):
                        continue
                    self.assertIs(is_table(SMALL, "x", [*states, other]), False, repr(value)[:80])

    def test_states_of_another_body(self):
        other = Cut(Body([], [("do", "a", [], "y"), ("do", "z", ["y"], "")]), [("call", ((0,), 1), Plan({}, {"y": "value"}, []))])
        self.assertIs(is_table(SMALL, "x", table(other, "y")), False)
        self.assertIs(is_table(other, "y", table(SMALL, "x")), False)
        self.assertIs(is_table(Cut(SMALL.body, []), "x", table(SMALL, "x")), False)

    def test_truths_are_no_numbers(self):
        states = table(SMALL, "x")
        swapped = [changed(state, 3, (("=", 0, 0), *state[3][1:])) for state in states]
        self.assertEqual(swapped, states)
        self.assertIs(is_table(SMALL, "x", swapped), False)
        swapped = [changed(state, 3, (*state[3][:3], 0)) for state in states]
        self.assertIs(is_table(SMALL, "x", swapped), False)
        swapped = [changed(state, 0, (tuple(bool(k) for k in state[0][0]), state[0][1])) for state in states]
        self.assertEqual(swapped, states)
        self.assertIs(is_table(SMALL, "x", swapped), False)

    def test_most(self):
        for cut in made_cuts(60):
            for name in cut.body.names():
                states = table(cut, name)
                if states is None:
                    continue
                self.assertEqual(table(cut, name, most=len(states)), states)
                if len(states) > 1:
                    with self.assertRaises(TooMany) as caught:
                        table(cut, name, most=len(states) - 1)
                    self.assertEqual(caught.exception.most, len(states) - 1)

    def test_a_name_of_no_piece(self):
        cut = Cut(Body(["y"], [("catch", "c", "y", "put"), ("do", "a", [], "x"), ("do", "d", ["y"], "")]),
                  [("f", ((1,), 1), Plan({}, {}, []))])
        self.assertEqual(piece_at(cut.body, ((1,), 1)).names(), ["x"])
        states = table(cut, "y")
        self.assertEqual(len(states), 5)
        self.assertIs(is_table(cut, "y", states), True)
        self.assertTrue(all(state[2] == ("y",) for state in states))
        with self.assertRaises(TooMany):
            table(cut, "y", most=4)

    def test_tables_are_new(self):
        states = table(SMALL, "x")
        states.clear()
        self.assertEqual(len(table(SMALL, "x")), 5)
        given = table(SMALL, "x")
        held = list(given)
        is_table(SMALL, "x", given)
        self.assertEqual(given, held)


if __name__ == "__main__":
    unittest.main()
