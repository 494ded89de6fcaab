"""FORMULAS: what they mean, what they are turned into, their texts."""

import unittest

from grammar import bad_piece, pieces_of
from helper import JUNK, Case, Maker, changed_things, deep, listed
from runclaims.errors import BadText, NoNumber
from runclaims.formulas import (
    core, formula_from, formula_text, has_next, inward, is_formula, is_true, left, left_behind,
    opposite, pieces_in, places_true, size_of, true_at, words_of,
)
from runclaims.loops import run_from, told_there, with_repeats

A, B, C, TRUE = ("word", "a"), ("word", "b"), ("word", "c"), ("true",)
FALSE = ("not", TRUE)
ONE, TWO = ("not", "next", "ever", "always"), ("and", "or", "until", "unless")
WORDS = "true a b word not next ever always and or until unless [ ] ( ) 1 part longnames X ; put".split()


def no(formula):
    return ("not", formula)


def means(formula, loop, at):
    """Whether it is true at a place, told by the words of the document."""
    front, circle = loop
    if at >= len(front):
        at = len(front) + (at - len(front)) % len(circle)
    # Behind these places only places come that have been met.
    later = range(at, len(front) + 2 * len(circle))
    kind, inner = formula[0], formula[1:]
    if kind == "true":
        return True
    if kind == "word":
        return inner[0] in (front + circle)[at]
    if kind == "not":
        return not means(inner[0], loop, at)
    if kind == "and":
        return means(inner[0], loop, at) and means(inner[1], loop, at)
    if kind == "or":
        return means(inner[0], loop, at) or means(inner[1], loop, at)
    if kind == "next":
        return means(inner[0], loop, at + 1)
    if kind == "ever":
        return any([means(inner[0], loop, there) for there in later])
    if kind == "always":
        return all([means(inner[0], loop, there) for there in later])
    comes = any([
        means(inner[1], loop, there) and all([means(inner[0], loop, on) for on in range(at, there)])
        for there in later
    ])
    if kind == "until":
        return comes
    return comes or all([means(inner[0], loop, there) for there in later])


def plain_left(formula, told):
    """What is left, by the words of the document."""
    kind, inner = formula[0], formula[1:]
    if kind == "true":
        return TRUE
    if kind == "word":
        return TRUE if inner[0] in told else FALSE
    if kind == "next":
        return inner[0]
    rest = [plain_left(piece, told) for piece in inner]
    if kind == "not":
        return TRUE if rest[0] == FALSE else no(rest[0])
    if kind in ("and", "or"):
        return joined(kind, *rest)
    if kind in ("ever", "always"):
        return joined("or" if kind == "ever" else "and", rest[0], formula)
    return joined("or", rest[1], joined("and", rest[0], formula))


def joined(kind, one, other):
    rules, yields = (TRUE, FALSE) if kind == "or" else (FALSE, TRUE)
    if rules in (one, other):
        return rules
    if one == yields:
        return other
    return one if other == yields else (kind, one, other)


class Forms(Case):
    def test_formulas(self):
        for thing in (
            TRUE, A, ("word", "let"), no(no(TRUE)), ("and", A, B), ("until", ("ever", A), ("next", B)),
            ("unless", ("always", A), ("or", A, FALSE)),
        ):
            self.assertIs(is_formula(thing), True)
            self.assertIs(is_formula(listed(thing)), False)
        for thing in JUNK + (
            ("true", "true"), ("true", ()), ("word",), ("word", "go"), ("word", "A"), ("word", ""), ("word", 1),
            ("word", ["a"]), ("word", "a", "b"), ("word", TRUE), "a", ("a",), ("not",), ("not", A, A), ("not", "a"),
            ("next", list(A)), ("ever",), ("always", A, B), ("and", A), ("and", A, B, C), ("or", A, None), ("until", A),
            ("unless", A, "b"), ("some", A), ("False",), ("same", A, B), (["not"], A), (("not",), A), ("and", A, True),
            no(no(no(["true"]))), ("word", "abcdefghi"), no(()), (None, A),
        ):
            self.assertIs(is_formula(thing), thing == ("true",) and isinstance(thing, tuple), thing)

    def test_deep_and_near_formulas(self):
        formula = A
        for _ in range(28):
            formula = no(formula)
        self.assertIs(is_formula(formula), True)
        self.assertIs(is_formula(deep(30)), False)
        for thing in changed_things(("until", ("or", A, no(TRUE)), ("next", B))):
            if thing != A[1]:
                self.assertIs(is_formula(thing), False, thing)

    def test_what_stands_in_formulas(self):
        formula = ("until", ("or", B, no(A)), ("next", ("or", B, no(A))))
        self.assertEqual(words_of(formula), ("a", "b"))
        self.assertEqual(words_of(FALSE), ())
        self.assertEqual(pieces_in(formula), tuple(sorted([
            formula, ("or", B, no(A)), B, no(A), A, ("next", ("or", B, no(A))),
        ])))
        self.assertEqual(pieces_in(TRUE), (TRUE,))
        self.assertEqual(pieces_in(("and", ("ever", B), A)), (("and", ("ever", B), A), ("ever", B), A, B))
        self.assertEqual([size_of(one) for one in (TRUE, A, FALSE, formula)], [1, 1, 2, 10])
        self.assertEqual(size_of(("and", ("and", A, A), ("and", A, A))), 7)
        self.assertIs(has_next(formula), True)
        self.assertIs(has_next(("until", A, no(B))), False)
        self.assertIs(has_next(("ever", no(("next", TRUE)))), True)
        self.assertIs(has_next(("word", "nextx")), False)


class Meaning(Case):
    def test_some(self):
        loop = ((("a",), ()), (("b",), ("a", "b")))
        for formula, wanted in (
            (TRUE, (0, 1, 2, 3)), (FALSE, ()), (A, (0, 3)), (B, (2, 3)), (C, ()), (("next", B), (1, 2, 3)),
            (("next", A), (2,)), (("ever", A), (0, 1, 2, 3)), (("ever", C), ()), (("always", B), (2, 3)),
            (("always", A), ()), (("until", A, B), (2, 3)), (("until", no(B), A), (0, 3)), (("unless", B, C), (2, 3)),
            (("until", B, C), ()), (("unless", A, FALSE), ()), (("and", A, B), (3,)), (("or", A, B), (0, 2, 3)),
            (("until", B, A), (0, 2, 3)), (("always", ("ever", A)), (0, 1, 2, 3)), (("ever", ("always", B)), (0, 1, 2, 3)),
            (("ever", ("always", A)), ()), (("next", ("next", ("next", A))), (0, 2)),
        ):
            self.assertEqual(places_true(formula, loop), wanted, formula)
            self.assertIs(is_true(formula, loop), 0 in wanted)

    def test_by_the_words(self):
        maker = Maker(41)
        for _ in range(400):
            formula, loop = maker.formula("ab", 3), maker.loop("ab", 5)
            places = len(loop[0]) + len(loop[1])
            wanted = tuple([at for at in range(places) if means(formula, loop, at)])
            self.assertEqual(places_true(formula, loop), wanted)
            self.assertIs(is_true(formula, loop), 0 in wanted)
            for at in range(2 * places):
                self.assertIs(true_at(formula, loop, at), means(formula, loop, at))

    def test_far_along_the_run(self):
        loop = ((("a",),), (("b",), (), ()))
        far = 1 + 3 * 10 ** 20
        self.assertEqual([true_at(B, loop, far + at) for at in range(3)], [True, False, False])
        for number in (-1, -10 ** 20):
            self.assert_raises(NoNumber, {"number": number}, true_at, A, loop, number)

    def test_a_run_has_one_meaning(self):
        maker = Maker(42)
        for _ in range(100):
            formula, loop = maker.formula("ab", 3), maker.loop("ab", 4)
            longer = (loop[0] + loop[1], loop[1] * 3)
            self.assertIs(is_true(formula, longer), is_true(formula, loop))
            at = maker.random.randint(0, 9)
            self.assertIs(true_at(formula, loop, at), is_true(formula, run_from(loop, at)))
            if not has_next(formula):
                slow = with_repeats(loop, [maker.random.randint(1, 3) for _ in loop[0] + loop[1]])
                self.assertIs(is_true(formula, slow), is_true(formula, loop))


class Turned(Case):
    def test_opposites(self):
        nota, notb = no(A), no(B)
        for formula, wanted in (
            (TRUE, FALSE), (A, nota), (nota, A), (no(nota), nota), (no(no(nota)), A), (FALSE, TRUE),
            (("and", A, nota), ("or", nota, A)), (("or", A, B), ("and", nota, notb)),
            (("next", A), ("next", nota)), (("ever", A), ("always", nota)), (("always", A), ("ever", nota)),
            (("until", A, B), ("unless", notb, ("and", nota, notb))),
            (("unless", A, B), ("until", notb, ("and", nota, notb))),
            (no(("until", nota, B)), ("until", nota, B)), (no(("ever", no(no(A)))), ("ever", A)),
            (("next", no(("and", A, B))), ("next", ("and", A, B))),
        ):
            self.assertEqual(opposite(formula), wanted)
            self.assertEqual(opposite(listed(formula)), wanted)

    def test_inward(self):
        nota, notb = no(A), no(B)
        for formula, wanted in (
            (TRUE, TRUE), (A, A), (FALSE, FALSE), (no(nota), A), (no(("and", A, B)), ("or", nota, notb)),
            (("until", no(nota), no(("next", B))), ("until", A, ("next", notb))),
            (no(("unless", A, B)), ("until", notb, ("and", nota, notb))), (("ever", no(no(A))), ("ever", A)),
            (("or", no(("ever", A)), no(("always", A))), ("or", ("always", nota), ("ever", nota))),
        ):
            self.assertEqual(inward(formula), wanted)

    def test_core(self):
        nota, notb = no(A), no(B)
        for formula, wanted in (
            (TRUE, TRUE), (A, A), (no(nota), no(nota)), (("and", A, B), ("and", A, B)), (("next", A), ("next", A)),
            (("until", A, B), ("until", A, B)), (("or", A, B), no(("and", nota, notb))),
            (("ever", A), ("until", TRUE, A)), (("always", A), no(("until", TRUE, nota))),
            (("unless", A, B), no(("until", notb, ("and", nota, notb)))),
            (("always", nota), no(("until", TRUE, no(nota)))),
            (("ever", ("always", A)), ("until", TRUE, no(("until", TRUE, nota)))),
            (("or", ("ever", A), B), no(("and", no(("until", TRUE, A)), notb))),
        ):
            self.assertEqual(core(formula), wanted)

    def test_left(self):
        wait = ("until", A, B)
        for formula, told, wanted in (
            (TRUE, (), TRUE), (FALSE, (), FALSE), (A, ("a",), TRUE), (A, ("b",), FALSE), (no(A), (), TRUE),
            (no(A), ("a",), FALSE), (("next", A), (), A), (("next", no(no(A))), (), no(no(A))), (no(("next", A)), (), no(A)),
            (no(("next", FALSE)), (), TRUE), (("and", ("next", A), B), ("b",), A), (("and", ("next", A), B), (), FALSE),
            (("or", ("next", A), B), ("b",), TRUE), (("or", B, ("next", A)), (), A),
            (("or", ("next", A), ("next", B)), (), ("or", A, B)), (("and", ("next", A), ("next", A)), (), ("and", A, A)),
            (wait, ("a",), wait), (wait, ("b",), TRUE), (wait, (), FALSE), (wait, ("a", "b"), TRUE),
            (("unless", A, B), ("a",), ("unless", A, B)), (("ever", A), ("a",), TRUE), (("ever", A), (), ("ever", A)),
            (("always", A), ("a",), ("always", A)), (("always", A), (), FALSE),
            (("ever", ("next", A)), (), ("or", A, ("ever", ("next", A)))),
            (("always", ("next", A)), (), ("and", A, ("always", ("next", A)))),
            (("until", ("next", A), ("next", B)), (), ("or", B, ("and", A, ("until", ("next", A), ("next", B))))),
            (("until", ("next", A), ("next", TRUE)), (), TRUE), (("and", ("next", TRUE), ("next", A)), (), A),
            (("or", ("next", FALSE), ("next", TRUE)), (), TRUE), (("and", ("next", TRUE), ("next", FALSE)), (), FALSE),
        ):
            self.assertEqual(left(formula, told), wanted, formula)
            self.assertEqual(left(formula, told), plain_left(formula, told))

    def test_left_behind(self):
        formula = ("next", ("next", ("until", A, B)))
        self.assertEqual(left_behind(formula, ()), formula)
        self.assertEqual(left_behind(formula, ((), ())), ("until", A, B))
        self.assertEqual(left_behind(formula, ((), (), ("a",))), ("until", A, B))
        self.assertEqual(left_behind(formula, [[], [], ["a"], ["b"]]), TRUE)
        again = ("always", ("ever", A))
        self.assertEqual(left_behind(again, ((),)), ("and", ("ever", A), again))
        twice = left_behind(again, ((), ()))
        self.assertEqual(twice, ("and", ("ever", A), ("and", ("ever", A), again)))

    def test_guarantees(self):
        maker = Maker(43)
        for _ in range(300):
            formula, loop = maker.formula("ab", 3), maker.loop("ab", 5)
            places = len(loop[0]) + len(loop[1])
            true = places_true(formula, loop)
            against = places_true(opposite(formula), loop)
            self.assertEqual(sorted(true + against), list(range(places)))
            self.assertEqual(places_true(inward(formula), loop), true)
            self.assertEqual(places_true(core(formula), loop), true)
            told = told_there(loop, 0)
            rest = left(formula, told)
            self.assertEqual(rest, plain_left(formula, told))
            self.assertIs(is_true(rest, run_from(loop, 1)), is_true(formula, loop))
            row = [told_there(loop, at) for at in range(5)]
            self.assertIs(is_true(left_behind(formula, row), run_from(loop, 5)), is_true(formula, loop))
            self.assertIs(self.is_inward(opposite(formula)) and self.is_inward(inward(formula)), True)
            words = {piece[0] for piece in pieces_in(core(formula))}
            self.assertTrue(words <= {"true", "word", "not", "and", "next", "until"})

    def is_inward(self, formula):
        """Whether not stands ahead of true and of words alone."""
        return all([piece[1][0] in ("true", "word") for piece in pieces_in(formula) if piece[0] == "not"])

    def test_what_is_returned_may_be_handed_in_again(self):
        formula, loop = ("until", ("until", A, B), ("unless", B, ("next", A))), ((("a",),), (("b",), ()))
        wanted = is_true(formula, loop)
        for _ in range(6):
            formula = opposite(formula)
        self.assertIs(is_true(formula, loop), wanted)
        self.assertIs(is_formula(formula), True)
        self.assertEqual(len(formula_text(formula)) > 1000, True)
        rest = ("always", ("ever", ("next", A)))
        long = left_behind(rest, ((),) * 150)
        self.assertIs(is_true(long, ((), ((),))), False)
        self.assertIs(is_true(long, ((), ((), ("a",)))), True)
        self.assertGreater(size_of(long), 300)
        self.assertIs(is_formula(long), True)
        self.assertEqual(words_of(core(long)), ("a",))
        deepest = A
        for _ in range(3000):
            deepest = ("next", deepest)
        self.assertEqual(size_of(deepest), 3001)
        self.assertIs(true_at(deepest, ((), (("a",), ())), 1), False)
        self.assertEqual(formula_text(no(deepest)), "not" + " next" * 3000 + " a")
        self.assertIs(is_formula(opposite(inward(core(deepest)))), True)


class Texts(Case):
    def test_read(self):
        for text, wanted in (
            ("true", TRUE), ("a", A), ("not a", no(A)), ("not not a", no(no(A))), ("[ a ]", A), ("[[a]]", A),
            ("a and b and c", ("and", ("and", A, B), C)), ("a or b or c", ("or", ("or", A, B), C)),
            ("a or b and c", ("or", A, ("and", B, C))), ("a and b or c", ("or", ("and", A, B), C)),
            ("a until b until c", ("until", ("until", A, B), C)), ("a until b unless c", ("unless", ("until", A, B), C)),
            ("a and b until c", ("and", A, ("until", B, C))), ("a until b and c", ("and", ("until", A, B), C)),
            ("not a until b", ("until", no(A), B)), ("next a and b", ("and", ("next", A), B)),
            ("always ever a or b", ("or", ("always", ("ever", A)), B)), ("always [ a or b ]", ("always", ("or", A, B))),
            ("a until [ b until c ]", ("until", A, ("until", B, C))), ("not true", FALSE), ("ever[a]", ("ever", A)),
            ("a unless not next b", ("unless", A, no(("next", B)))), ("not next a until b", ("until", no(("next", A)), B)),
            (" a\nor\n\n b ", ("or", A, B)),
        ):
            self.assertEqual(formula_from(text), wanted, text)
            self.assertIsNone(bad_piece("formula", text))

    def test_bad(self):
        for text, piece in (
            ("", 0), (" ", 0), ("not", 1), ("a b", 1), ("a and", 2), ("and a", 0), ("a and or b", 2), ("[ a", 2),
            ("a ]", 1), ("[ ]", 1), ("( a )", 0), ("a not b", 1), ("1", 0), ("part", 0), ("abcdefghi", 0), ("A", 0),
            ("true true", 1), ("a until", 2), ("not and", 1), ("[ a and b", 4), ("[ a ] ]", 3), ("a == b", 1),
            ("next", 1), ("ever ]", 1), ("a or [ b or ]", 5), ("put", 0), ("a . b", 1), ("a until until b", 2),
        ):
            self.assert_raises(BadText, {"piece": piece}, formula_from, text)
            self.assertEqual(bad_piece("formula", text), piece)

    def test_written(self):
        for formula, wanted in (
            (TRUE, "true"), (A, "a"), (no(no(A)), "not not a"), (("and", A, B), "[ a and b ]"),
            (("until", no(A), ("or", B, TRUE)), "[ not a until [ b or true ] ]"), (("next", ("unless", A, B)), "next [ a unless b ]"),
            (("always", ("ever", A)), "always ever a"), (no(("until", A, B)), "not [ a until b ]"),
            (("and", ("and", A, B), C), "[ [ a and b ] and c ]"),
        ):
            self.assertEqual(formula_text(formula), wanted)
            self.assertEqual(formula_text(listed(formula)), wanted)
            self.assertEqual(formula_from(wanted), formula)

    def test_there_and_back(self):
        maker = Maker(44)
        for _ in range(150):
            formula = maker.formula("abc", 4)
            text = formula_text(formula)
            self.assertEqual(formula_from(text), formula)
            self.assertEqual(" ".join(pieces_of(text)), text)
            other = "".join([maker.pick("  ", "\n", " \n ") + piece for piece in pieces_of(text)])
            self.assertEqual(formula_from(other + "\n"), formula)

    def test_changed_texts(self):
        maker = Maker(45)
        met = {True: 0, False: 0}
        for _ in range(80):
            row = pieces_of(formula_text(maker.formula("ab", 3)))
            at = maker.random.randint(0, len(row))
            for changed in (
                row[:at], row[:at] + row[at + 1:], row[:at] + row[at:at + 1] + row[at:],
                row[:at] + [maker.pick(*WORDS)] + row[at + 1:], [piece for piece in row if piece not in "[]"],
            ):
                text = " ".join(changed)
                bad = bad_piece("formula", text)
                met[bad is None] += 1
                if bad is None:
                    self.assertEqual(formula_from(formula_text(formula_from(text))), formula_from(text))
                else:
                    self.assert_raises(BadText, {"piece": bad}, formula_from, text)
        self.assertGreater(min(met.values()), 80)

    def test_deep(self):
        self.assertEqual(formula_from("[" * 45 + "a" + "]" * 45), A)
        self.assertEqual(size_of(formula_from("not " * 150 + "a")), 151)
        self.assertEqual(size_of(formula_from(" and ".join(["a"] * 100))), 199)
        self.assert_raises(BadText, {"piece": 90}, formula_from, "[" * 45 + "a" + "]" * 44)


if __name__ == "__main__":
    unittest.main()
