"""[60]: how the cells of a name begin and change."""

import itertools
import unittest

from cutoutpieces.cells import (
    BODY, ELDER, FIRST, FRAME, OTHERS, are_cells, betrayed, called, caught, going, puttable, returned, set_at, sign_of, struck)
from samples import odd_values

SIGNS = ["=", "+", "-"]
CELLS = [(sign, look, put) for sign in SIGNS for look in (False, True) for put in (False, True)]


def some_cells():
    """Cells of all kinds."""
    for body, frame, elder in itertools.product(CELLS, [(), *CELLS[::2]], [(), *CELLS[1::3]]):
        for others in (False, True):
            yield body, frame, elder, others


def signs(cells):
    """The signs of the three cells, None where there is none."""
    return [cell[0] if cell else None for cell in cells[:3]]


def uses(cells):
    """What holds the three cells."""
    return [cell[1:] for cell in cells[:3]]


class CellsTest(unittest.TestCase):
    def test_at_first(self):
        self.assertEqual(FIRST, (("=", False, False), (), (), False))

    def test_what_goes_on(self):
        for cells in some_cells():
            self.assertEqual(going(cells), FRAME if cells[FRAME] else BODY)
            self.assertEqual(sign_of(cells), cells[FRAME][0] if cells[FRAME] else cells[BODY][0])

    def test_set(self):
        for cells in some_cells():
            for was_set, place in itertools.product((False, True), (BODY, FRAME, ELDER, OTHERS)):
                following = set_at(cells, place, was_set)
                for at, (old, new) in enumerate(zip(signs(cells), signs(following))):
                    if old is None:
                        self.assertIsNone(new)
                    elif at == place:
                        self.assertEqual(new, "=")
                    else:
                        self.assertEqual(new, {"=": "+" if was_set else "-"}.get(old, old))
                self.assertEqual([uses(following), following[OTHERS]], [uses(cells), cells[OTHERS]])

    def test_struck(self):
        for cells in some_cells():
            following = struck(cells)
            for at, (old, new) in enumerate(zip(signs(cells), signs(following))):
                expected = {None: None, "=": "+", "+": "+", "-": "="}[old]
                self.assertEqual(new, "=" if at == going(cells) else expected)
            self.assertEqual([uses(following), following[OTHERS]], [uses(cells), cells[OTHERS]])

    def test_caught(self):
        for cells in some_cells():
            for use in ("look", "put"):
                following = caught(cells, use)
                at = going(cells)
                sign, look, put = cells[at]
                self.assertEqual(following[at], (sign, look or use == "look", put or use == "put"))
                self.assertEqual(following[:at] + following[at + 1:], cells[:at] + cells[at + 1:])

    def test_a_call_begins(self):
        for cells in some_cells():
            for is_set in (False, True):
                for handing in ("value", "state"):
                    self.assertEqual(called(cells, handing, is_set), (cells[0], (cells[0][0], False, False), *cells[2:]))
                sign = "-" if is_set else "="
                self.assertEqual(called(cells, "none", is_set), (cells[0], (sign, False, False), *cells[2:]))

    def test_a_call_is_left(self):
        for body, frame, elder, others in some_cells():
            if frame == ():
                continue
            for handing in ("none", "value", "state"):
                after = body if handing == "none" else (frame[0], *body[1:])
                expected = [((after, (), elder, others or frame[2]), False)]
                if frame[1] or frame[2]:
                    expected.append(((after, (), frame, others or (elder != () and elder[2])), True))
                told = returned((body, frame, elder, others), handing)
                self.assertEqual(sorted(told), sorted(expected))
                self.assertTrue(all(isinstance(cells[OTHERS], bool) for cells, _ in told))

    def test_what_the_world_can_put_and_look_at(self):
        cells = (("+", True, True), ("=", True, False), ("-", False, True), True)
        self.assertEqual([puttable(cells), betrayed(cells)], [[BODY, ELDER, OTHERS], [BODY]])
        cells = (("=", True, False), (), ("-", True, True), False)
        self.assertEqual([puttable(cells), betrayed(cells)], [[ELDER], [ELDER]])
        self.assertEqual([puttable(FIRST), betrayed(FIRST)], [[], []])

    def test_rules_one_after_another(self):
        # A value is handed in, caught, set in the frame, and not handed back.
        cells = called(FIRST, "value", True)
        cells = caught(caught(cells, "look"), "put")
        self.assertEqual(cells, (("=", False, False), ("=", True, True), (), False))
        cells = set_at(cells, going(cells), True)
        self.assertEqual(signs(cells), ["+", "=", None])
        left, watched = [held for held, _ in returned(cells, "none")]
        self.assertEqual(left, (("+", False, False), (), (), True))
        self.assertEqual(watched, (("+", False, False), (), ("=", True, True), False))
        self.assertEqual(signs(set_at(watched, ELDER, True)), ["+", None, "="])
        self.assertEqual(signs(set_at(watched, BODY, True)), ["=", None, "+"])
        self.assertEqual(signs(set_at(left, OTHERS, True)), ["+", None, None])
        # A second frame, that is watched in the place of the first one, or is not.
        again = caught(called(watched, "none", True), "look")
        self.assertEqual(again, (("+", False, False), ("-", True, False), ("=", True, True), False))
        kept, changed = [held for held, _ in returned(again, "state")]
        self.assertEqual(kept, (("-", False, False), (), ("=", True, True), False))
        self.assertEqual(changed, (("-", False, False), (), ("-", True, False), True))
        self.assertEqual(signs(struck(changed)), ["=", None, "="])
        self.assertEqual(signs(struck(kept)), ["=", None, "+"])

    def test_the_form_of_any_value(self):
        for cells in some_cells():
            for is_called, is_set in itertools.product((False, True), (False, True)):
                good = bool(cells[FRAME]) == is_called and (is_set or "-" not in signs(cells))
                self.assertIs(are_cells(cells, is_called, is_set), good)
        good = [("=", False, True), (), ("+", True, False), False]
        self.assertTrue(are_cells(tuple(good), False, True))
        self.assertFalse(are_cells(good, False, True))
        self.assertFalse(are_cells((*good, False), False, True))
        self.assertFalse(are_cells(tuple(good[:3]), False, True))
        for value in odd_values():
            self.assertIs(are_cells(value, False, True), False)
            for at in range(4):
                if value == good[at] and isinstance(value, type(good[at])) or (at == 3 and value is True) or (at == 2 and value == ()):
                    continue
                self.assertIs(are_cells((*good[:at], value, *good[at + 1:]), False, True), False)
            for at in range(3):
                cell = ["=", False, False]
                if at > 0 and isinstance(value, bool):
                    continue
                cell[at] = value
                self.assertIs(are_cells((tuple(cell), (), (), False), False, True), False)


if __name__ == "__main__":
    unittest.main()
