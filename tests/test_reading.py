"""Texts of any depth and numbers of any length: how they are read and written."""

import sys
import unittest

from grammar import bad_piece
from helper import LOW, ONE, Case, Maker, X
from runclaims.digits import number_in, number_text
from runclaims.errors import BadText, Unfit
from runclaims.formulas import formula_from, formula_text, is_formula
from runclaims.language import block_from, pieces, system_from, test_from as read_test, value_from
from runclaims.shapes import is_test_in, is_value_in
from runclaims.systems import deeds_of, is_system
from runclaims.texts import block_text, system_text, test_text as written_test, value_text
from splits import block_in, formula_in, test_in as split_test, value_in

DEEP = 5000
PASS = ("pass",)
SCOPE = (("x", "y"), ("q",), ("q",), (("a", "l"),))


class Grower:
    """Grows texts at random, with brackets or without."""

    def __init__(self, seed):
        self.maker = Maker(seed)

    def joined(self, words, least, signs, depth):
        """Least ones joined by words, turned, and in brackets."""
        kind = self.maker.pick("least", "join", "join", "bracket", "turn")
        if depth == 0 or kind == "least":
            return least()
        joins, turns = words
        inner = self.joined(words, least, signs, depth - 1)
        if kind == "join":
            return f"{inner} {self.maker.pick(*joins)} {self.joined(words, least, signs, depth - 1)}"
        if kind == "turn" and turns:
            return f"{self.maker.pick(*turns)} {self.turnable(inner, words, signs)}"
        return f"{signs[0]} {inner} {signs[1]}"

    def turnable(self, text, words, signs):
        """The text, in brackets if words join it, so that turning it can be read in one way."""
        joined = any([word in words[0] for word in text.split(" ")])
        return f"{signs[0]} {text} {signs[1]}" if joined else text

    def value(self, depth=3):
        return self.joined((("+", "-", "*"), ()), lambda: self.maker.pick("x", "y", "0", "9"), "()", depth)

    def test(self, depth=3):
        return self.joined((("and", "or"), ("not",)), self.least_test, "[]", depth)

    def least_test(self):
        same = f"{self.value(2)} {self.maker.pick('==', '<')} {self.value(2)}"
        return self.maker.pick(same, "full q", "empty q", "stands a l")

    def formula(self, depth=4):
        words = (("and", "or", "until", "unless"), ("not", "next", "ever", "always"))
        return self.joined(words, lambda: self.maker.pick("true", "a", "b"), "[]", depth)

    def block(self, depth=2):
        return " ; ".join([self.deed(depth) for _ in range(self.maker.pick(1, 1, 2, 3))])

    def deed(self, depth):
        kind = self.maker.pick("once", "pick", "again", "least", "least", "least")
        if depth == 0 or kind == "least":
            return self.maker.pick(
                "pass", "leave", "else", "get q x", "label l", "go l", f"x = {self.value(2)}",
                f"put q {self.value(2)}", f"when {self.test(2)}", f"check {self.test(2)}",
            )
        many = 1 if kind == "once" else self.maker.pick(1, 2, 3)
        return f"{kind} {{ {' | '.join([self.block(depth - 1) for _ in range(many)])} }}"


class Split(Case):
    """What is read is what a split at the word that joins last tells."""

    def check(self, grow, read, split, kind):
        many = set()
        for _ in range(250):
            text = grow()
            found = read(text)
            self.assertEqual(found, split(text.split(" ")), text)
            self.assertEqual(read(text.replace(" ", "\n ")), found)
            many.add(text)
            row = text.split(" ")
            if len(row) < 12:
                self.assertIsNone(bad_piece(kind, text))
                for at in range(len(row)):
                    changed = " ".join(row[:at] + row[at + 1:])
                    bad = bad_piece(kind, changed)
                    if bad is not None:
                        self.assert_raises(BadText, {"piece": bad}, read, changed)
        self.assertGreater(len(many), 90)

    def test_values(self):
        self.check(Grower(281).value, value_from, value_in, "value")

    def test_tests(self):
        self.check(Grower(282).test, read_test, split_test, "test")

    def test_formulas(self):
        self.check(Grower(283).formula, formula_from, formula_in, "formula")

    def test_blocks(self):
        self.check(Grower(284).block, block_from, block_in, "block")


class Deep(Case):
    """The depth of a text does not matter; nothing here compares deep tuples."""

    def chain(self, found, item=1):
        """The words met on the way down through one item, and what stands at its end."""
        words = []
        while found[0] not in ("cell", "number", "less", "word", "true") and found != (PASS,):
            words.append(found[0])
            found = found[item]
        return words, found

    def test_values(self):
        self.assertEqual(value_from("(" * DEEP + "x" + ")" * DEEP), X)
        left = value_from("x" + " + 1" * DEEP)
        self.assertEqual(self.chain(left), (["sum"] * DEEP, X))
        right = value_from("1 * ( " * DEEP + "x" + " )" * DEEP)
        self.assertEqual(self.chain(right, 2), (["times"] * DEEP, X))
        self.assertEqual(value_text(right), "( 1 * " * DEEP + "x" + " )" * DEEP)
        self.assertEqual(value_text(left), "( " * DEEP + "x" + " + 1 )" * DEEP)
        self.assertIs(is_value_in(SCOPE, right), True)
        self.assertIs(is_value_in(SCOPE, value_from("1 * ( " * DEEP + "z" + " )" * DEEP)), False)

    def test_tests(self):
        self.assertEqual(read_test("[" * DEEP + "x < 2" + "]" * DEEP), LOW)
        turned = read_test("not " * DEEP + "x < 2")
        self.assertEqual(self.chain(turned), (["not"] * DEEP, LOW))
        self.assertEqual(written_test(turned), "[ not " * DEEP + "x < 2" + " ]" * DEEP)
        self.assertIs(is_test_in(SCOPE, turned), True)
        self.assertIs(is_test_in((("z",),) + SCOPE[1:], turned), False)
        joined = read_test("full q or [ " * DEEP + "x < 2" + " ]" * DEEP)
        self.assertEqual(self.chain(joined, 2), (["or"] * DEEP, LOW))
        self.assertEqual(self.chain(read_test(written_test(joined)), 2), (["or"] * DEEP, LOW))

    def test_formulas(self):
        self.assertEqual(formula_from("[" * DEEP + "true" + "]" * DEEP), ("true",))
        turned = formula_from("next not " * DEEP + "a")
        self.assertEqual(self.chain(turned), (["next", "not"] * DEEP, ("word", "a")))
        self.assertEqual(formula_text(turned), "next not " * DEEP + "a")
        self.assertIs(is_formula(turned), True)
        joined = formula_from("a until " * DEEP + "b")
        self.assertEqual(self.chain(joined), (["until"] * DEEP, ("word", "a")))
        self.assertEqual(formula_text(joined), "[ " * DEEP + "a" + " until a ]" * (DEEP - 1) + " until b ]")

    def test_blocks(self):
        for word, opened in (("once", "once { "), ("pick", "pick { "), ("again", "again { pass ; leave | ")):
            block = block_from(opened * DEEP + "pass" + " }" * DEEP)
            self.assertEqual(block_text(block), opened * DEEP + "pass" + " }" * DEEP)
            words = []
            while block != (PASS,):
                words.append(block[0][0])
                block = block[0][1] if word == "once" else block[0][1][-1]
            self.assertEqual(words, [word] * DEEP)

    def test_systems(self):
        for opened, middle, closed, many in (("again { pass ; ", "leave", " }", 2), ("pick { pass ; ", "pass", " | else }", 3), ("again { pass | else ; ", "leave", " }", 3)):
            text = "part a { " + opened * DEEP + middle + closed * DEEP + " }"
            system = system_from(text)
            self.assertEqual(system_text(system), text)
            self.assertIs(is_system(system), True)
            deeds = deeds_of(system, "a")
            self.assertEqual(([deed[0] for deed in deeds[:2]], len(deeds)), ([opened.split(" ")[0], "pass"], many * DEEP + 1))
        for opened, middle in (("once { ", "pass"), ("pick { ", "pass"), ("pick { pass ; ", "leave"), ("again { pass ; ", "else"), ("again { pass ; ", "c = 1")):
            self.assert_raises(Unfit, {}, system_from, "part a { " + opened * DEEP + middle + " }" * DEEP + " }")

    def test_which_piece_is_bad(self):
        for read, text, piece in (
            (value_from, "(" * DEEP + "x" + ")" * (DEEP - 1), 2 * DEEP), (value_from, "(" * DEEP + "x" + ")" * (DEEP + 1), 2 * DEEP + 1),
            (value_from, "(" * DEEP, DEEP), (value_from, "(" * DEEP + "x ]", DEEP + 1), (value_from, "x + " * DEEP, 2 * DEEP), (value_from, "(" * DEEP + "x + )", DEEP + 2),
            (read_test, "not " * DEEP, DEEP), (read_test, "[" * DEEP + "x )", DEEP + 1), (read_test, "[" * DEEP + "x < 2" + "]" * (DEEP - 1), 2 * DEEP + 2),
            (read_test, "[" * DEEP + "x < 2" + "]" * (DEEP + 1), 2 * DEEP + 3), (read_test, "[" * DEEP + "(" * DEEP + "x ]", 2 * DEEP + 1),
            (formula_from, "next " * DEEP, DEEP), (formula_from, "[" * DEEP + "a" + "]" * (DEEP - 1), 2 * DEEP), (formula_from, "[" * DEEP + "a" + "]" * DEEP + "b", 2 * DEEP + 1),
            (block_from, "once { " * DEEP + "pass" + " }" * (DEEP - 1), 3 * DEEP), (block_from, "once { " * DEEP + "pass | pass", 2 * DEEP + 1),
            (block_from, "pick { " * DEEP + "pass" + " }" * (DEEP + 1), 3 * DEEP + 1), (block_from, "pick { " * DEEP + "}", 2 * DEEP), (block_from, "pick { " * DEEP + "pass" + " }" * DEEP + " |", 3 * DEEP + 1),
        ):
            self.assert_raises(BadText, {"piece": piece}, read, text)

    def test_long_texts(self):
        self.assertEqual(len(pieces("x + " * DEEP)), 2 * DEEP)
        self.assertEqual(len(block_from("pass ; " * DEEP + "pass")), DEEP + 1)
        self.assertEqual(len(block_from("pick { " + "pass | " * DEEP + "pass }")[0][1]), DEEP + 1)


class Numbers(Case):
    """Numbers as digits, beyond those that int and str take."""

    def setUp(self):
        self.most = sys.get_int_max_str_digits()

    def tearDown(self):
        sys.set_int_max_str_digits(self.most)

    def numbers(self):
        maker = Maker(285)
        yield from (0, 1, 9, 10, 10 ** 63, 10 ** 64 - 1, 10 ** 64, 10 ** 64 + 1, 10 ** 128 - 1, 10 ** 128, 10 ** 192 + 7, 10 ** 5000, 10 ** 20000 - 1)
        for size in (1, 5, 63, 64, 65, 127, 128, 129, 200, 640, 1000, 5000, 9000):
            yield from [maker.random.randrange(10 ** size) for _ in range(3)]

    def test_there_and_back(self):
        for number in self.numbers():
            sys.set_int_max_str_digits(0)
            wanted = str(number)
            sys.set_int_max_str_digits(640)
            self.assertEqual(number_text(number), wanted)
            self.assertEqual(number_in(wanted), number)
            self.assertEqual(number_in("000" + wanted), number)
            if number:
                self.assertEqual(number_text(-number), "-" + wanted)


class Scopes(Case):
    def test_what_is_near_a_value_or_a_test(self):
        for thing in (("sum", X, ONE), ("gap", ("sum", X, X), ("times", ONE, X)), X, ONE):
            self.assertIs(is_value_in(SCOPE, thing), True)
        for thing in (
            ("sum", X), ("sum", X, ONE, ONE), ["sum", X, ONE], ("sum", X, list(ONE)), ("sum", X, LOW), ("not", X), ("sum", ("sum", X, ("cell", "z")), X),
            ("number", 10), ("number", -1), ("number", True), ("cell", "z"), (), None, "x", ("sum", "x", "x"),
        ):
            self.assertIs(is_value_in(SCOPE, thing), False)
        for thing in (LOW, ("not", ("not", LOW)), ("and", LOW, ("or", ("full", "q"), ("stands", "a", "l"))), ("empty", "q")):
            self.assertIs(is_test_in(SCOPE, thing), True)
        for thing in (
            ("not", LOW, LOW), ("not",), ("and", LOW), ("and", LOW, LOW, LOW), ["not", LOW], ("not", list(LOW)), ("and", LOW, X), ("or", LOW, None), ("full", "x"),
            ("stands", "a", "m"), ("stands", "b", "l"), ("stands", "a"), ("less", X), ("less", X, LOW), ("same", LOW, LOW), ("not", ("not", ("less", X, ("cell", "z")))), (), None, X,
        ):
            self.assertIs(is_test_in(SCOPE, thing), False)


if __name__ == "__main__":
    unittest.main()
