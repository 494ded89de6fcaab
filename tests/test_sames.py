"""TOLD ROWS, what systems tell alike, SOON FORMULAS, rows squeezed."""

import itertools
import unittest

from helper import JUNK, ONE, Case, Maker, changed_things, free_clock, listed
from likes import Told, next_depth, pairs_of_systems, plain_keeps_soon
from runclaims.errors import Unfit
from runclaims.sames import (
    formula_apart, how_many_told, is_formula_apart, is_row, keeps_soon, row_apart, rows_told, squeezed, tell_alike,
)
from runclaims.verdicts import keeps

P, Q, TRUE, D = ("word", "p"), ("word", "q"), ("true",), ("cell", "d")
CELLS = (("d", 3, 0),)
HEARD = tuple([(word, ("same", D, ("number", number))) for word, number in (("cake", 3), ("paid", 1), ("tea", 2))])
PAY, CAKE, TEA = [("let", "d", ("number", number)) for number in (1, 3, 2)]
CHOOSE_LATE = (CELLS, (), (("m", (PAY, ("pick", ((TEA,), (CAKE,))))),))
CHOOSE_SOON = (CELLS, (), (("m", (("pick", ((PAY, TEA), (PAY, CAKE))),)),))
TEA_ALONE = (CELLS, (), (("m", (PAY, TEA)),))
FREE = ((("n", 1, 0),), (), (("a", (("again", ((("let", "n", ("number", 0)),), (("let", "n", ONE),))),)),))
LIT = (("p", ("same", ("cell", "n"), ONE)),)


def soon(maker, words="pq", depth=3):
    """A SOON FORMULA."""
    if depth == 0 or maker.random.random() < 0.2:
        return maker.pick(TRUE, ("word", maker.pick(*words)), ("word", maker.pick(*words)))
    kind = maker.pick("not", "next", "next", "and", "or")
    if kind in ("not", "next"):
        return (kind, soon(maker, words, depth - 1))
    return (kind, soon(maker, words, depth - 1), soon(maker, words, depth - 1))


class Rows(Case):
    def test_told_rows(self):
        for maker, system, heard, _, _, told, _ in pairs_of_systems(201, 60, 12):
            for number in (1, 2, 3, 5):
                rows = told.rows(number)
                if len(rows) <= 500:
                    self.assertEqual(rows_told(system, heard, number), sorted(rows))
                self.assertEqual(how_many_told(system, heard, number), len(rows))
            for row in maker.random.sample(sorted(rows), min(3, len(rows))):
                self.assertIs(is_row(system, heard, row), True)
                self.assertIs(is_row(system, heard, listed(row)), False)
                for thing in list(changed_things(row))[:60]:
                    sets = type(thing) is tuple and all([type(one) is tuple for one in thing])
                    self.assertIs(is_row(system, heard, thing), sets and len(thing) > 0 and told.has_row(thing), thing)

    def test_what_is_no_row(self):
        for thing in JUNK + ((("p",), ("p", "p")), (("q",),), ((), ("q",)), ((), ("p", "q")), ("p",), "p", ((), ["p"]), [(), ("p",)], ((), True)):
            self.assertIs(is_row(FREE, LIT, thing), thing in (((),), ((), ()), ((), (), ())) and type(thing) is tuple, thing)
        for thing in itertools.product(((), ("p",)), repeat=3):
            self.assertIs(is_row(FREE, LIT, thing), thing[0] == ())

    def test_many_rows(self):
        self.assertEqual(how_many_told(FREE, LIT, 1), 1)
        self.assertEqual(how_many_told(FREE, LIT, 9), 2 ** 8)
        self.assertEqual(len(rows_told(FREE, LIT, 9)), 2 ** 8)
        self.assertEqual(how_many_told(FREE, LIT, 300), 2 ** 299)
        self.assertEqual(rows_told(FREE, (), 4), [((), (), (), ())])
        self.assertEqual(rows_told(TEA_ALONE, HEARD, 300), [((), ("paid",)) + (("tea",),) * 298])

    def test_squeezed(self):
        maker = Maker(202)
        for _ in range(200):
            row = tuple([maker.told("ab") for _ in range(maker.random.randint(0, 8))])
            wanted = tuple([told for at, told in enumerate(row) if at == 0 or row[at - 1] != told])
            self.assertEqual(squeezed(row), wanted)
            self.assertEqual(squeezed(listed(row)), wanted)
            self.assertEqual(squeezed(row=wanted), wanted)
        for row, wanted in (((), ()), (((),), ((),)), (((), (), ("a",), ("a",), ()), ((), ("a",), ()))):
            self.assertEqual(squeezed(row), wanted)


class Apart(Case):
    def test_rows_apart(self):
        counts = {True: 0, False: 0}
        for maker, one, ones, other, others, told, also in pairs_of_systems(203, 300, 9):
            row = row_apart(one, ones, other, others)
            alike = row is None
            counts[alike] += 1
            self.assertIs(tell_alike(one, ones, other, others), alike)
            self.assertEqual(row_apart(other, others, one, ones), row)
            many = 6 if alike else len(row)
            for number in range(1, many):
                rows = told.rows(number)
                if rows is not None:
                    self.assertEqual(rows, also.rows(number) or rows)
            if not alike and told.rows(many) and also.rows(many):
                self.assertEqual(row, min(told.rows(many) ^ also.rows(many)))
                self.assertNotEqual(told.has_row(row), also.has_row(row))
            formula = formula_apart(one, ones, other, others)
            self.assertIs(formula is None, alike)
            if formula is not None:
                self.assertIs(is_formula_apart(one, ones, other, others, formula), True)
                self.assertIs(is_formula_apart(one, ones, other, others, listed(formula)), False)
                if len(row) < 5:
                    self.assertNotEqual(plain_keeps_soon(told, formula), plain_keeps_soon(also, formula))
            for formula in [soon(maker) for _ in range(3)]:
                if next_depth(formula) < 4:
                    wanted = [plain_keeps_soon(told, formula), plain_keeps_soon(also, formula)]
                    self.assertIs(is_formula_apart(one, ones, other, others, formula), wanted[0] != wanted[1])
                    self.assertTrue(wanted[0] == wanted[1] or not alike)
            self.assertFalse(any([is_formula_apart(one, ones, other, others, thing) for thing in (("ever", P), ("not", ("until", P, Q)))]))
        self.assertGreater(min(counts.values()), 40)

    def test_who_tells_alike_keeps_the_same(self):
        for maker, one, ones, other, others, _, _ in pairs_of_systems(204, 120, 12):
            if tell_alike(one, ones, other, others):
                for formula in (maker.formula("pq", 3), maker.formula("pq", 4)):
                    self.assertIs(keeps(one, ones, formula), keeps(other, others, formula))

    def test_words_of_both(self):
        few = (("cake", HEARD[0][1]), ("paid", HEARD[1][1]))
        other = (("cake", HEARD[0][1]), ("paid", HEARD[1][1]), ("tee", HEARD[2][1]))
        for wrong in (few, other, ()):
            for call, more in (
                (row_apart, ()), (tell_alike, ()), (formula_apart, ()), (is_formula_apart, (("ever", P),)), (is_formula_apart, (None,)),
            ):
                self.assert_raises(Unfit, {}, call, CHOOSE_LATE, HEARD, CHOOSE_SOON, wrong, *more)
                self.assert_raises(Unfit, {}, call, listed(CHOOSE_LATE), listed(wrong), listed(CHOOSE_SOON), listed(HEARD), *more)
        turned = tuple([(word, ("not", test)) for word, test in HEARD])
        self.assertEqual(row_apart(TEA_ALONE, HEARD, TEA_ALONE, turned), ((),))
        self.assertIs(tell_alike(TEA_ALONE, (), FREE, ()), True)
        self.assertIs(tell_alike(CHOOSE_LATE, HEARD, CHOOSE_SOON, HEARD), True)

    def test_what_is_no_formula_apart(self):
        good = ("next", ("next", ("word", "tea")))
        self.assertIs(is_formula_apart(CHOOSE_LATE, HEARD, TEA_ALONE, HEARD, good), True)
        for thing in JUNK + (["next", ("next", ("word", "tea"))], ("next", ["next", ("word", "tea")]), good[1], ("always", good)):
            self.assertIs(is_formula_apart(CHOOSE_LATE, HEARD, TEA_ALONE, HEARD, thing), False)
        for thing in list(changed_things(good)):
            told = is_formula_apart(CHOOSE_LATE, HEARD, TEA_ALONE, HEARD, thing)
            self.assertIs(type(told), bool)
            self.assertFalse(told and "[" in repr(thing))
        # A word that nobody hears is told nowhere.
        self.assertIs(is_formula_apart(CHOOSE_LATE, HEARD, TEA_ALONE, HEARD, ("or", ("word", "zoo"), good)), True)
        self.assertIs(is_formula_apart(CHOOSE_LATE, HEARD, TEA_ALONE, HEARD, ("and", ("word", "zoo"), good)), False)


class Soon(Case):
    def test_what_is_kept_soon(self):
        counts = {True: 0, False: 0}
        for maker, system, heard, _, _, told, _ in pairs_of_systems(205, 150, 12):
            for formula in [soon(maker) for _ in range(4)]:
                wanted = plain_keeps_soon(told, formula)
                if wanted is not None:
                    counts[wanted] += 1
                    self.assertIs(keeps_soon(system, heard, formula), wanted)
                    self.assertIs(keeps(system, heard, formula), wanted)
                    unheard = tuple([pair for pair in heard if pair[0] != "q"])
                    told_less = Told(system, unheard)
                    self.assertIs(keeps_soon(system, unheard, formula), plain_keeps_soon(told_less, formula))
        self.assertGreater(min(counts.values()), 60)

    def test_what_is_not_soon(self):
        for formula in (("ever", P), ("always", TRUE), ("until", P, Q), ("unless", P, Q), ("next", ("ever", P)), ("or", TRUE, ("not", ("always", Q)))):
            self.assert_raises(Unfit, {}, keeps_soon, FREE, LIT, formula)
            self.assert_raises(Unfit, {}, keeps_soon, system=listed(FREE), heard=[], formula=listed(formula))
        self.assertIs(keeps_soon(FREE, LIT, TRUE), True)
        self.assertIs(keeps_soon(FREE, LIT, ("not", TRUE)), False)
        self.assertIs(keeps_soon(FREE, (), ("not", ("word", "zoo"))), True)
        self.assertIs(keeps_soon(FREE, LIT, ("or", ("next", P), ("next", ("not", P)))), True)


class Large(Case):
    def test_as_large_as_the_bounds_allow(self):
        one, other = free_clock((9, 9, 4)), free_clock((9, 8, 4))
        full = ("and", ("same", ("cell", "x"), ("number", 9)), ("same", ("cell", "y"), ("number", 8)))
        heard = (("p", full), ("q", ("same", ("cell", "z"), ("number", 4))))
        row = row_apart(one, heard, other, heard)
        self.assertNotEqual(is_row(one, heard, row), is_row(other, heard, row))
        formula = formula_apart(one, heard, other, heard)
        self.assertIs(is_formula_apart(one, heard, other, heard, formula), True)
        self.assertIs(tell_alike(one, heard, one, heard), True)

    def test_long_rows(self):
        chain = [("label", "top"), ("let", "x", ("sum", ("cell", "x"), ONE)), ("pick", ((("when", ("same", ("cell", "x"), ("number", 0))), ("let", "y", ("sum", ("cell", "y"), ONE))), (("else",), ("pass",))))]
        one = ((("x", 9, 0), ("y", 9, 0)), (), (("a", tuple(chain) + (("go", "top"),)),))
        other = ((("x", 9, 0), ("y", 8, 0)), (), one[2])
        last = ("and", ("same", ("cell", "x"), ("number", 9)), ("and", ("same", ("cell", "y"), ("number", 8)), ("stands", "a", "top")))
        heard = (("p", last),)
        row = row_apart(one, heard, other, heard)
        self.assertGreater(len(row), 400)
        self.assertNotEqual(is_row(one, heard, row), is_row(other, heard, row))
        formula = formula_apart(one, heard, other, heard)
        self.assertIs(is_formula_apart(one, heard, other, heard, formula), True)
        self.assertNotEqual(keeps_soon(one, heard, formula), keeps_soon(other, heard, formula))


if __name__ == "__main__":
    unittest.main()
