"""Points [2] and [3] and the heading knownlate/values.py: names, states, integers and rows."""

import unittest

from knownlate.values import is_ascending, is_name, is_row, is_state, is_whole
from tests.samples import clock, odd_objects, odd_rows


class Names(unittest.TestCase):
    def test_names(self):
        for value in ("a", "z", "fill", "abcdefghijkl", "zzzzzzzzzzzz", "none", "abcdefghijklmnopqrstuvwxyz"[14:]):
            self.assertIs(is_name(value), True, value)

    def test_all_letters(self):
        for code in range(0x250):
            self.assertIs(is_name(chr(code)), "a" <= chr(code) <= "z", code)
            self.assertIs(is_name("ab" + chr(code)), "a" <= chr(code) <= "z", code)

    def test_lengths(self):
        for length in range(30):
            self.assertIs(is_name("q" * length), 1 <= length <= 12, length)

    def test_strings_that_are_no_names(self):
        for value in ("", "abcdefghijklm", "Fill", "fiLl", "a b", " a", "a ", "a\n", "\n", "a1", "1", "a_b", "a-b",
                      "\u00e9", "\u00aa", "\u00df", "\uff41", "\ud800", "\u0131", "a\0", "a" * 10 ** 6):
            self.assertIs(is_name(value), False, ascii(value[:20]))

    def test_other_objects_are_no_names(self):
        for value in odd_objects() + odd_rows() + [None, 0, 5, 99, clock(), b"a", ["a"], ("a",)]:
            self.assertIs(is_name(value), False)


class States(unittest.TestCase):
    def test_integers(self):
        for value in range(-300, 300):
            self.assertIs(is_state(value), 0 <= value <= 99, value)
        for value in (10 ** 50, -10 ** 50, 10 ** 6000):
            self.assertIs(is_state(value), False)

    def test_flags_are_no_states(self):
        self.assertIs(is_state(True), False)
        self.assertIs(is_state(False), False)

    def test_other_objects_are_no_states(self):
        for value in odd_objects() + odd_rows() + [None, clock(), 0.0, 1.0, 99.0, "0", "1", "a", b"1", [1], (1,)]:
            self.assertIs(is_state(value), False)


class SharedKinds(unittest.TestCase):
    def test_integers_are_not_flags(self):
        for value in (0, 1, -1, 10 ** 50):
            self.assertIs(is_whole(value), True)
        for value in (True, False, None, 1.0, "1", [1], 1j):
            self.assertIs(is_whole(value), False)

    def test_ascending_rows(self):
        for value in ([], (), (5,), (1, 2, 10), ["a", "ab", "b"], [(1, ()), (1, ("a",)), (2, ())]):
            self.assertIs(is_ascending(value), True)
        for value in ((1, 1), (2, 1), (1, 3, 2), ["b", "ab"], ["a", "a"], [(1, ("a",)), (1, ())]):
            self.assertIs(is_ascending(value), False)

    def test_rows_are_lists_and_tuples(self):
        for value in ([], (), [1], (1,)):
            self.assertIs(is_row(value), True)
        for value in ({}, set(), "ab", b"ab", range(2), None, 5, iter([]), {}.keys()):
            self.assertIs(is_row(value), False)


if __name__ == "__main__":
    unittest.main()
