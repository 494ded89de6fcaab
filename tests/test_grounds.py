"""GROUNDS, FORMULAS that tell LOOPS apart, the LOOPS of which a FORMULA is true."""

import itertools
import unittest

from helper import JUNK, Case, Maker, changed_things, deep, listed
from runclaims.errors import NoNumber
from runclaims.formulas import has_next, inward, is_formula, is_true
from runclaims.grounds import (
    first_true, grounds, how_many_true, is_grounds, is_telling, is_telling_still, telling,
    telling_still, true_loops,
)
from runclaims.loops import alike_but_repeats, are_alike

A, B, TRUE = ("word", "a"), ("word", "b"), ("true",)
NOT_A, FALSE = ("not", A), ("not", TRUE)
LOOP = ((("a",),), (("b",), ()))
WAIT = ("until", A, B)


def plain_grounds(formula, loop, thing):
    """Whether a set of triples of the right shape are GROUNDS, by the table of the document."""
    sets, back = loop[0] + loop[1], len(loop[0])
    aim = inward(formula)

    def held(part, place):
        return any([row[0] == part and row[1] == place for row in thing])

    for part, place, number in thing:
        behind = place + 1 if place + 1 < len(sets) else back
        kind, own = part[0], held(part, behind)
        if inward(part) != part or (number and kind not in ("until", "ever")):
            return False
        if kind == "word":
            good = part[1] in sets[place]
        elif kind == "not":
            good = part != FALSE and part[1][1] not in sets[place]
        elif kind == "and":
            good = held(part[1], place) and held(part[2], place)
        elif kind == "or":
            good = held(part[1], place) or held(part[2], place)
        elif kind == "next":
            good = held(part[1], behind)
        elif kind == "until" and number == 0:
            good = held(part[2], place)
        elif kind == "until":
            good = held(part[1], place) and (part, behind, number - 1) in thing
        elif kind == "ever" and number == 0:
            good = held(part[1], place)
        elif kind == "ever":
            good = (part, behind, number - 1) in thing
        elif kind == "unless":
            good = held(part[2], place) or held(part[1], place) and own
        elif kind == "always":
            good = held(part[1], place) and own
        else:
            good = kind == "true"
        if not good:
            return False
    return held(aim, 0)


def fits_shape(loop, thing):
    """Whether thing is a set of triples of a FORMULA, a place and a number from 0."""
    if type(thing) is not tuple:
        return False
    for row in thing:
        if type(row) is not tuple or len(row) != 3 or not is_formula(row[0]):
            return False
        if type(row[1]) is not int or type(row[2]) is not int or row[2] < 0:
            return False
        if not 0 <= row[1] < len(loop[0]) + len(loop[1]):
            return False
    return list(thing) == sorted(set(thing))


def all_loops(words, front, circle):
    sets = [told for many in range(len(words) + 1) for told in itertools.combinations(words, many)]
    for row in itertools.product(sorted(sets), repeat=front + circle):
        yield row[:front], row[front:]


class Grounds(Case):
    def test_there_are_grounds_exactly_where_it_is_true(self):
        maker = Maker(81)
        for _ in range(500):
            formula, loop = maker.formula("ab", 4), maker.loop("ab", 5)
            found = grounds(formula, loop)
            self.assertIs(found is not None, is_true(formula, loop))
            if found is not None:
                self.assertTrue(fits_shape(loop, found))
                self.assertTrue(plain_grounds(formula, loop, found))
                self.assertIs(is_grounds(formula, loop, found), True)

    def test_what_is_near_grounds_is_judged_by_the_table(self):
        maker = Maker(82)
        for _ in range(12):
            formula, loop = maker.formula("ab", 3), maker.loop("ab", 3)
            for thing in changed_things(grounds(formula, loop) or ((formula, 0, 0),)):
                wanted = fits_shape(loop, thing) and plain_grounds(formula, loop, thing)
                self.assertIs(is_grounds(formula, loop, thing), wanted, thing)

    def test_each_row_of_the_table(self):
        loop = ((("a",), ()), (("a", "b"), ("a",)))
        for formula, thing, wanted in (
            (TRUE, ((TRUE, 0, 0),), True), (TRUE, ((TRUE, 1, 0),), False), (TRUE, (), False),
            (A, ((A, 0, 0),), True), (B, ((B, 0, 0),), False), (("not", B), ((("not", B), 0, 0),), True),
            (("not", A), ((NOT_A, 0, 0),), False), (FALSE, ((FALSE, 0, 0),), False),
            (("not", FALSE), ((TRUE, 0, 0),), True), (("not", ("not", A)), ((A, 0, 0),), True),
            (("next", NOT_A), ((("next", NOT_A), 0, 0), (NOT_A, 1, 0)), True),
            (("next", NOT_A), ((("next", NOT_A), 0, 0), (NOT_A, 0, 0)), False),
            (("or", A, B), ((A, 0, 0), (("or", A, B), 0, 0)), False),
            (("or", A, B), ((("or", A, B), 0, 0), (A, 0, 0)), True), (("or", A, B), ((("or", A, B), 0, 0),), False),
            (("and", A, TRUE), ((("and", A, TRUE), 0, 0), (TRUE, 0, 0), (A, 0, 0)), True),
            (("and", A, TRUE), ((("and", A, TRUE), 0, 0), (A, 0, 0)), False),
            (("and", A, TRUE), ((("and", A, TRUE), 0, 0), (TRUE, 0, 0)), False),
            (("ever", B), ((("ever", B), 0, 2), (("ever", B), 1, 1), (("ever", B), 2, 0), (B, 2, 0)), True),
            (("ever", B), ((("ever", B), 0, 2), (("ever", B), 2, 0), (B, 2, 0)), False),
            (("ever", B), ((("ever", B), 0, 3), (("ever", B), 1, 1), (("ever", B), 2, 0), (B, 2, 0)), False),
            (("ever", A), ((("ever", A), 0, 0), (A, 0, 0)), True),
            (("ever", A), ((("ever", A), 0, 0), (A, 2, 0)), False),
            (("unless", A, NOT_A), ((("not", A), 1, 0), (("unless", A, NOT_A), 0, 0),
                                    (("unless", A, NOT_A), 1, 0), (A, 0, 0)), True),
            (("unless", A, NOT_A), ((("not", A), 1, 0), (("unless", A, NOT_A), 0, 0), (A, 0, 0)), False),
        ):
            self.assertIs(is_grounds(formula, loop, thing), wanted, (formula, thing))
        always = ("always", A)
        ring = tuple([(always, at, 0) for at in range(2)] + [(A, at, 0) for at in range(2)])
        self.assertIs(is_grounds(always, ((), (("a",), ("a", "b"))), ring), True)
        self.assertIs(is_grounds(always, ((), (("a",), ("a", "b"))), ring[:1] + ring[2:]), False)
        late = ((("ever", A), 0, 10 ** 40), (("ever", A), 0, 0), (A, 0, 0))
        self.assertIs(is_grounds(("ever", A), ((), (("a",),)), tuple(sorted(late))), False)

    def test_more_may_stand_in_grounds(self):
        both = ((WAIT, 0, 1), (WAIT, 0, 1), (WAIT, 1, 0), (A, 0, 0), (B, 1, 0))
        self.assertIs(is_grounds(WAIT, LOOP, both[1:]), True)
        self.assertIs(is_grounds(WAIT, LOOP, both), False)
        self.assertIs(is_grounds(WAIT, LOOP, tuple(sorted(both[1:] + ((TRUE, 2, 0),)))), True)
        # Numbers may be those of a later round.
        ever = ("ever", B)
        circle = ((), (("b",), ()))
        thing = tuple(sorted([(ever, 0, 2), (ever, 1, 1), (ever, 0, 0), (B, 0, 0)]))
        self.assertIs(is_grounds(ever, circle, thing), True)

    def test_parts_are_turned_inward(self):
        formula = ("not", ("and", A, B))
        turned = ("or", ("not", A), ("not", B))
        loop = ((), (("a",),))
        self.assertIs(is_grounds(formula, loop, ((("not", B), 0, 0), (turned, 0, 0))), True)
        self.assertIs(is_grounds(formula, loop, ((formula, 0, 0), (("not", B), 0, 0))), False)
        self.assertIs(is_grounds(formula, loop, tuple(sorted([(formula, 0, 0), (("not", B), 0, 0), (turned, 0, 0)]))), False)

    def test_what_is_none(self):
        for thing in JUNK + (grounds(WAIT, LOOP)[:-1], listed(grounds(WAIT, LOOP)), deep(30)):
            self.assertIs(is_grounds(WAIT, LOOP, thing), False)
        for row in ((WAIT, 0), (WAIT, 0, True), (WAIT, True, 0), (list(WAIT), 0, 0), (WAIT, 3, 0), (WAIT, -1, 0), (WAIT, 0, -1), (None, 0, 0), 3):
            self.assertIs(is_grounds(WAIT, LOOP, (row,)), False)


class Telling(Case):
    def test_telling(self):
        maker = Maker(83)
        for _ in range(400):
            one, other = maker.loop("ab", 5), maker.loop("ab", 5)
            found = telling(one, other)
            self.assertIs(found is None, are_alike(one, other))
            if found is not None:
                self.assertTrue(is_true(found, one) and not is_true(found, other))
                self.assertIs(is_telling(one, other, found), True)
                self.assertIs(is_telling(other, one, found), False)
            still = telling_still(one, other)
            self.assertIs(still is None, alike_but_repeats(one, other))
            if still is not None:
                self.assertTrue(is_true(still, one) and not is_true(still, other))
                self.assertFalse(has_next(still))
                self.assertIs(is_telling_still(one, other, still), True)
                self.assertIs(is_telling_still(other, one, still), False)

    def test_what_tells(self):
        one, other = ((("a",),), (("b",),)), ((("a",), ("a",)), (("b",),))
        self.assertIs(is_telling(one, other, ("next", B)), True)
        self.assertIs(is_telling_still(one, other, ("next", B)), False)
        self.assertIsNone(telling_still(one, other))
        for thing in JUNK + (A, ["next", B], ("next", ["word", "b"]), ("next", A)):
            self.assertIs(is_telling(one, other, thing), False)
            self.assertIs(is_telling_still(one, other, thing), False)
        big = ("next", B)
        for _ in range(25):
            big = ("not", big)
        self.assertIs(is_telling(other, one, big), True)
        big = ("next", B)
        for _ in range(12):
            big = ("and", big, big)
        self.assertIs(is_telling(one, other, big), True)

    def test_runs_that_stop_changing(self):
        stays, goes = ((("a",), ("b",)), (("a",),)), ((("a",), ("b",)), (("a",), ("b",)))
        for one, other in ((stays, goes), (goes, stays)):
            found = telling_still(one, other)
            self.assertIs(is_telling_still(one, other, found), True)

    def test_many_words(self):
        names = tuple(sorted(["a" * many + end for many in range(7) for end in "bcdefgh"]))
        one, other = ((names, names[1:]), (names[2:], ())), ((names, names[1:]), ((), names[2:]))
        for found in (telling(one, other), telling_still(one, other)):
            self.assertTrue(is_telling(one, other, found))
        self.assertLess(str(telling_still(one, other)).count("("), 10 ** 4)


class TrueLoops(Case):
    def test_lists_and_numbers(self):
        maker = Maker(84)
        for _ in range(60):
            formula = maker.formula("ab", 3)
            words = maker.pick((), ("a",), ("a", "b"), ("b", "c"))
            front, circle = maker.random.randint(0, 2), maker.random.randint(1, 2)
            wanted = [loop for loop in all_loops(words, front, circle) if is_true(formula, loop)]
            self.assertEqual(true_loops(formula, words, front, circle), wanted)
            self.assertEqual(wanted, sorted(set(wanted)))
            self.assertEqual(how_many_true(formula, words, front, circle), len(wanted))

    def test_first(self):
        maker = Maker(85)
        for _ in range(60):
            formula = maker.formula("ab", 4)
            words = maker.pick((), ("a",), ("a", "b"))
            wanted = None
            for places in range(1, 4):
                if wanted is None:
                    rows = [all_loops(words, front, places - front) for front in range(places)]
                    found = [loop for row in rows for loop in row if is_true(formula, loop)]
                    wanted = min(found, default=None)
                self.assertEqual(first_true(formula, words, places), wanted)
            self.assertIsNone(first_true(formula, words, 0))

    def test_first_with_a_front(self):
        only_now = ("and", A, ("next", ("always", NOT_A)))
        self.assertEqual(first_true(only_now, ("a",), 2), ((("a",),), ((),)))
        self.assertIsNone(first_true(only_now, ("a",), 1))
        later = ("and", NOT_A, ("next", only_now))
        self.assertEqual(first_true(later, ("a", "b"), 3), (((), ("a",)), ((),)))

    def test_words_that_are_told_nowhere(self):
        self.assertEqual(true_loops(A, (), 1, 1), [])
        self.assertEqual(true_loops(NOT_A, ("b",), 0, 1), [((), ((),)), ((), (("b",),))])
        self.assertIsNone(first_true(("ever", A), ("b",), 5))
        self.assertEqual(first_true(("not", A), (), 10 ** 9), ((), ((),)))
        self.assertIsNone(first_true(A, (), 10 ** 9))

    def test_numbers_that_are_none(self):
        for call in (true_loops, how_many_true):
            for front, circle, wrong in ((-1, 0, -1), (0, 0, 0), (2, -3, -3), (-2, 1, -2)):
                self.assert_raises(NoNumber, {"number": wrong}, call, A, ("a",), front, circle)
            self.assert_raises(NoNumber, {"number": 0}, call, formula=A, words=["a"], front=1, circle=0)
        self.assert_raises(NoNumber, {"number": -1}, first_true, A, ("a",), -1)

    def test_as_many_as_the_bounds_allow(self):
        formula = ("and", ("ever", ("always", A)), ("always", ("ever", NOT_A)))
        self.assertIsNone(first_true(formula, ("a",), 12))
        self.assertEqual(how_many_true(formula, ("a", "b", "c"), 2, 2), 0)
        self.assertEqual(how_many_true(("ever", A), ("a", "b", "c"), 2, 2), 4096 - 256)


if __name__ == "__main__":
    unittest.main()
