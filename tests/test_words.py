"""[21]: what any value is."""

import unittest

from cutoutpieces import words
from samples import odd_values


def same(one, other):
    """Equal, and alike to the last True."""
    return repr(one) == repr(other)


class WordsTest(unittest.TestCase):
    def need(self, ask, right):
        """ask is True of just those odd values that are among right, and of all of these."""
        for thing in [*right, *odd_values()]:
            with self.subTest(thing=repr(thing)[:80]):
                self.assertIs(ask(thing), any(same(thing, other) for other in right))

    def test_is_integer(self):
        self.need(words.is_integer, [0, 1, 2, -1, 10 ** 30, -7])

    def test_is_name(self):
        right = ["a", "x", "z", "az", "abcdefgh", "zzzzzzzz", "look", "put", "end", "value", "state", "none", "told",
                 "unset", "loop"]
        self.need(words.is_name, right)
        for wrong in ["", "abcdefghi", "A", "`", "{", "a-", "a.", " a", "a ", "0", "aaaaaaa0", "aaaaaaaaa", "\x7f"]:
            self.assertIs(words.is_name(wrong), False)

    def test_every_letter_is_a_name(self):
        for code in range(128):
            self.assertIs(words.is_name(chr(code)), 97 <= code <= 122)
            self.assertIs(words.is_name("a" + chr(code)), 97 <= code <= 122)

    def test_is_use(self):
        self.need(words.is_use, ["look", "put"])
        self.assertIs(words.is_use("lookput"), False)
        self.assertIs(words.is_use("loo"), False)

    def test_is_way(self):
        self.need(words.is_way, ["end", "leave", "again", "answer", "fail", "shut"])
        self.assertIs(words.is_way("told"), False)

    def test_is_handing(self):
        self.need(words.is_handing, ["none", "value", "state"])
        self.assertIs(words.is_handing("values"), False)

    def test_is_address(self):
        right = [(0,), (1,), (0, 0, 0), (7, 1, 10 ** 9), (0, 5, 0, 5, 0)]
        self.need(words.is_address, [*right, tuple(range(9999))])
        for wrong in [(), (0, 0), (0, 0, 0, 0), [0], [0, 0, 0], (True,), (0, False, 0), (-1,), (0, -1, 0), ("a",),
                      ((0,),), 0, (0, None, 0), (b"a",)]:
            self.assertIs(words.is_address(wrong), False)

    def test_are_names(self):
        for most in range(5):
            for many in range(6):
                self.assertIs(words.are_names(["a"] * many, most), many <= most)
                self.assertIs(words.are_names(("x",) * many, most), many <= most)
        self.assertIs(words.are_names(["a", "b", "a"], 3), True)
        self.assertIs(words.are_names([], 0), True)

    def test_are_names_of_any_value(self):
        right = [[], (), ["a"], ("a",), ["a", "b"], ("a", "b"), ["leave"], ("leave",), ("do",)]
        self.need(lambda thing: words.are_names(thing, 3), right)

    def test_are_names_with_others(self):
        for wrong in [["a", ""], ["a", 1], ["a", True], [["a"]], ["abcdefghi"], {"a": 1}, "ab", {"a"}, ["a", None]]:
            self.assertIs(words.are_names(wrong, 3), False)
        self.assertIs(words.are_names(["a"] * 9999, 9999), True)
        self.assertIs(words.are_names(["a"] * 9999, 9998), False)
