"""What all files rest on: NAMEs, numbers, sets, copies of tuples alone."""

import unittest

from helper import JUNK, deep
from runclaims.plain import (
    KEY_WORDS, as_set, frozen, is_name, is_name_set, is_number, is_number_from,
)


class Plain(unittest.TestCase):
    def test_names(self):
        for name in ("a", "z", "let", "same", "less", "sum", "abcdefgh", "idle", "cells"):
            self.assertTrue(is_name(name), name)
        for name in (
            "", "abcdefghi", "A", "aB", "a1", "1", "a b", " a", "a ", "a_", "-", "{", "`", "a\n",
            "\xe9", "\xdf", "\u0251", None, 1, True, ("a",), ["a"], b"a",
        ):
            self.assertFalse(is_name(name), name)

    def test_key_words_are_no_names(self):
        words = (
            "again always and cell check else empty ever full get go label leave next not once"
            " or part pass pick put queue stands true unless until when"
        ).split()
        self.assertEqual(list(KEY_WORDS), words)
        for word in words:
            self.assertFalse(is_name(word), word)

    def test_numbers(self):
        for number in (0, 1, -1, 10 ** 50):
            self.assertTrue(is_number(number))
        for thing in (True, False, None, "1", (1,), [1]):
            self.assertFalse(is_number(thing))
            self.assertFalse(is_number_from(thing, 0, 9))
        told = [is_number_from(number, 0, 2) for number in (-1, 0, 2, 3)]
        self.assertEqual(told, [False, True, True, False])

    def test_sets_of_names(self):
        for thing in ((), ("a",), ("a", "b"), ("a", "ab", "b")):
            self.assertTrue(is_name_set(thing))
        for thing in (["a"], ("b", "a"), ("a", "a"), ("a", 1), ("A",), "ab", None, (("a",),)):
            self.assertFalse(is_name_set(thing))
        self.assertEqual(as_set(["b", "a", "b"]), ("a", "b"))

    def test_frozen(self):
        self.assertEqual(frozen([1, [], ("a", [None, [True]])]), (1, (), ("a", (None, (True,)))))
        self.assertEqual(frozen([]), ())
        self.assertEqual(frozen("ab"), "ab")
        for thing in JUNK:
            self.assertEqual(frozen(thing), frozen(frozen(thing)))
        self.assertEqual(str(frozen(deep(30))).count("["), 0)
        thing = ()
        for _ in range(5000):
            thing = [thing]
        self.assertIs(type(frozen(thing)), tuple)


if __name__ == "__main__":
    unittest.main()
