"""STEP FORMULAS, PAIRINGS, FOLLOWINGS, lots, least models."""

import itertools
import unittest

from helper import JUNK, ONE, Case, Maker, changed_things, deep, free_clock, listed
from likes import Told, is_matched, is_plainly, pairs_of_systems, rounds, step_depth, step_formulas
from runclaims.errors import Unfit
from runclaims.pairings import (
    can_pair, follows, greatest_following, greatest_pairing, in_one_lot, is_following, is_pairing, is_plain, is_plain_apart,
    is_step_apart, is_step_formula, is_step_true, least_model, lots, plain_apart, rounds_apart, step_apart, steps_deep,
)
from runclaims.sames import is_row, rows_told, tell_alike

P, Q, TRUE, D = ("word", "p"), ("word", "q"), ("true",), ("cell", "d")
CELLS = (("d", 3, 0),)
HEARD = tuple([(word, ("same", D, ("number", number))) for word, number in (("cake", 3), ("paid", 1), ("tea", 2))])
PAY, CAKE, TEA = [("let", "d", ("number", number)) for number in (1, 3, 2)]
CHOOSE_LATE = (CELLS, (), (("m", (PAY, ("pick", ((TEA,), (CAKE,))))),))
CHOOSE_SOON = (CELLS, (), (("m", (("pick", ((PAY, TEA), (PAY, CAKE))),)),))
BOTH = ("and", ("some", ("word", "tea")), ("some", ("word", "cake")))
APART = (step_apart, plain_apart, rounds_apart, can_pair, follows, greatest_pairing, greatest_following)
ASK = (is_step_apart, is_plain_apart, is_pairing, is_following)


class StepFormulas(Case):
    def test_what_is_one(self):
        maker = Maker(211)
        for _ in range(200):
            formula = step_formulas(maker, "pq", 4)
            self.assertIs(is_step_formula(formula), True)
            self.assertIs(is_plain(formula), is_plainly(formula))
            self.assertEqual(steps_deep(formula), step_depth(formula))
            self.assertEqual(steps_deep(listed(formula)), step_depth(formula))
            self.assertIs(is_step_formula(listed(formula)), False)
        for thing in (TRUE, P, ("word", "let"), ("some", TRUE), ("not", P), ("and", ("not", P), ("some", ("not", Q)))):
            self.assertIs(is_step_formula(thing), True)
            self.assertIs(is_plain(thing), True)
        for thing in (("not", TRUE), ("not", ("not", P)), ("some", ("not", ("some", P))), ("not", ("and", P, Q)), ("and", P, ("not", TRUE))):
            self.assertIs(is_step_formula(thing), True)
            self.assertIs(is_plain(thing), False)

    def test_what_is_none(self):
        for thing in JUNK + (
            ("or", P, Q), ("next", P), ("some",), ("some", P, Q), ("and", P), ("and", P, Q, P), ("not", P, Q), ("word", "not"), ("word", "A"),
            ("word",), ("word", P), ("true", P), ("some", ["true"]), ["some", P], ("some", ()), ("some", "true"), ("not", ("word",)),
            ("not", ("word", 3)), ("ever", P), ("some", deep(30)), (("some",), P),
        ):
            wanted = thing in (TRUE, ("word", "x")) and type(thing) is tuple
            self.assertIs(is_step_formula(thing), wanted, thing)
            self.assertIs(is_plain(thing), wanted)
        for thing in changed_things(("and", ("some", ("not", P)), TRUE)):
            self.assertIs(type(is_step_formula(thing)), bool)
            self.assertFalse(is_step_formula(thing) and "[" in repr(thing))
        tall = P
        for _ in range(3000):
            tall = ("some", ("not", tall))
        self.assertIs(is_step_formula(tall), True)
        self.assertEqual(steps_deep(tall), 3000)
        self.assertEqual((steps_deep(TRUE), steps_deep(("not", P)), steps_deep(("and", ("some", P), ("some", ("some", P))))), (0, 0, 2))

    def test_where_they_are_true(self):
        for maker, system, heard, _, _, told, _ in pairs_of_systems(212, 80, 12):
            for formula in [step_formulas(maker, "pqr", 4) for _ in range(3)]:
                for state in told.states:
                    self.assertIs(is_step_true(system, heard, state, formula), told.step_true(state, formula))

    def test_states_that_are_not_come_to(self):
        far, here = ((0,), (3,), (), -1), ((0,), (0,), (), -1)
        self.assert_raises(Unfit, {}, is_step_true, CHOOSE_LATE, HEARD, far, TRUE)
        self.assert_raises(Unfit, {}, is_step_true, listed(CHOOSE_LATE), listed(HEARD), listed(far), listed(TRUE))
        self.assert_raises(Unfit, {}, in_one_lot, CHOOSE_LATE, HEARD, far, here)
        self.assert_raises(Unfit, {}, in_one_lot, CHOOSE_LATE, HEARD, here, far)
        self.assertIs(in_one_lot(CHOOSE_LATE, HEARD, here, listed(here)), True)


def in_order(pairs):
    return tuple(sorted(pairs))


class Matched(Case):
    def test_pairings_and_followings(self):
        kinds = set()
        for maker, one, ones, other, others, told, also in pairs_of_systems(213, 150, 8):
            first = (told.first, also.first)
            for both_ways, greatest, ask, there in (
                (True, greatest_pairing, is_pairing, can_pair), (False, greatest_following, is_following, follows),
            ):
                last = rounds(told, also, both_ways)[-1]
                given = (one, ones, other, others)
                found = greatest(*given)
                self.assertEqual(found, in_order(last) if first in last else None)
                self.assertIs(there(*given), first in last)
                kinds.add((both_ways, first in last))
                if found is not None:
                    self.assertIs(ask(*given, found), True)
                    self.assertIs(ask(*given, listed(found)), False)
                    self.assertTrue(is_matched(told, also, set(found), both_ways))
                    for thing in [found[:at] + found[at + 1:] for at in range(len(found))]:
                        self.assertIs(ask(*given, thing), is_matched(told, also, set(thing), both_ways))
                    if found[0] != found[-1]:
                        self.assertIs(ask(*given, found[::-1]), False)
                    self.assertIs(ask(*given, found + found[-1:]), False)
                some = {pair for pair in itertools.product(told.states, also.states) if maker.random.random() < 0.2} | {first}
                self.assertIs(ask(*given, in_order(some)), is_matched(told, also, some, both_ways))
                tried = (found or ())[:maker.random.randint(1, 4)]
                self.assertIs(ask(*given, tried), is_matched(told, also, set(tried), both_ways))
        self.assertEqual(len(kinds), 4)

    def test_all_of_them_lie_in_the_greatest(self):
        some = 0
        for _, one, ones, other, others, told, also in pairs_of_systems(214, 300, 4):
            pairs = list(itertools.product(told.states, also.states))
            if len(pairs) > 9:
                continue
            for both_ways, greatest in ((True, greatest_pairing), (False, greatest_following)):
                good = [
                    set(thing) for many in range(1, len(pairs) + 1) for thing in itertools.combinations(pairs, many)
                    if is_matched(told, also, set(thing), both_ways)
                ]
                found = greatest(one, ones, other, others)
                self.assertEqual(found, in_order(set().union(*good)) if good else None)
                some += good != []
        self.assertGreater(some, 20)

    def test_what_is_none(self):
        given = (CHOOSE_LATE, HEARD, CHOOSE_LATE, HEARD)
        good = greatest_pairing(*given)
        far = (((0,), (3,), (), -1),) * 2
        for thing in JUNK + (good + (far,), (far,), good[1:], ((good[0][0],),), tuple([pair + pair for pair in good]), tuple([list(pair) for pair in good])):
            self.assertIs(is_pairing(*given, thing), False)
            self.assertIs(is_following(*given, thing), False)
        for thing in list(changed_things(good)):
            if thing is not None and "True" not in repr(thing):
                self.assertIs(is_pairing(*given, thing), thing == good and type(thing) is tuple)
        late_true = (((False,), (0,), (), -1), ((0,), (0,), (), -1))
        self.assertIs(is_pairing(*given, (late_true,) + good[1:]), False)

    def test_guarantees(self):
        seen = set()
        for maker, one, ones, other, others, told, also in pairs_of_systems(215, 200, 8):
            paired, forth, back = can_pair(one, ones, other, others), follows(one, ones, other, others), follows(other, others, one, ones)
            alike = tell_alike(one, ones, other, others)
            self.assertTrue(not paired or forth and back and alike)
            if forth and told.rows(5):
                self.assertTrue(all([is_row(other, others, row) for row in rows_told(one, ones, 4)]))
            single = all([len({here.told[goal] for goal in here.behind[state]}) == len(here.behind[state]) for here in (told, also) for state in here.states])
            self.assertTrue(not single or paired == alike)
            seen.add((paired, single))
        self.assertEqual(len(seen), 4)

    def test_systems_that_follow_one_another_without_a_pairing(self):
        def system(*blocks):
            return (CELLS, (), (("m", (("pick", blocks),)),))

        lead = (PAY, ("pick", ((TEA,), (CAKE,))))
        one, other = system(lead, (PAY,)), system(lead, lead)
        self.assertIs(follows(one, HEARD, other, HEARD) and follows(other, HEARD, one, HEARD), False)
        one, other = system(lead, (PAY, TEA)), system(lead, lead)
        self.assertIs(follows(one, HEARD, other, HEARD) and follows(other, HEARD, one, HEARD), True)
        self.assertIs(can_pair(one, HEARD, other, HEARD), False)
        self.assertIsNone(plain_apart(one, HEARD, other, HEARD))
        self.assertIsNone(plain_apart(other, HEARD, one, HEARD))
        self.assertEqual(rounds_apart(one, HEARD, other, HEARD), 2)


class Apart(Case):
    def test_step_formulas_apart(self):
        depths = set()
        for maker, one, ones, other, others, told, also in pairs_of_systems(216, 200, 9):
            given = (one, ones, other, others)
            found = rounds(told, also, True)
            first = (told.first, also.first)
            formula, depth = step_apart(*given), rounds_apart(*given)
            depths.add(depth)
            wanted = [at for at, pairs in enumerate(found) if first not in pairs][:1]
            self.assertEqual([depth] if depth is not None else [], wanted)
            self.assertIs(formula is None, depth is None)
            if formula is not None:
                self.assertEqual(steps_deep(formula), depth)
                self.assertTrue(told.step_true(told.first, formula) and not also.step_true(also.first, formula))
                self.assertIs(is_step_apart(*given, formula), True)
                self.assertIs(is_step_apart(other, others, one, ones, formula), False)
                self.assertIs(is_step_apart(*given, listed(formula)), False)
            for thing in [step_formulas(maker, "pq", 4) for _ in range(6)]:
                wanted = told.step_true(told.first, thing) and not also.step_true(also.first, thing)
                self.assertIs(is_step_apart(*given, thing), wanted)
                self.assertIs(is_plain_apart(*given, thing), wanted and is_plainly(thing))
                self.assertTrue(not wanted or depth <= step_depth(thing))
        self.assertTrue({None, 0, 1, 2} <= depths, depths)

    def test_plain_formulas_apart(self):
        counts = {True: 0, False: 0}
        for _, one, ones, other, others, told, also in pairs_of_systems(217, 200, 9):
            given = (one, ones, other, others)
            formula = plain_apart(*given)
            there = (told.first, also.first) not in rounds(told, also, False)[-1]
            counts[there] += 1
            self.assertIs(formula is not None, there)
            if there:
                self.assertTrue(is_plainly(formula))
                self.assertTrue(told.step_true(told.first, formula) and not also.step_true(also.first, formula))
                self.assertIs(is_plain_apart(*given, formula), True)
                self.assertIs(is_step_apart(*given, formula), True)
        self.assertGreater(min(counts.values()), 40)

    def test_near_and_far_things(self):
        given = (CHOOSE_LATE, HEARD, CHOOSE_SOON, HEARD)
        told, also = Told(*given[:2]), Told(*given[2:])
        for thing in list(JUNK) + list(changed_things(("some", BOTH))) + [BOTH, ("not", BOTH), ("some", ("not", ("not", BOTH)))]:
            wanted = is_step_formula(thing) and told.step_true(told.first, thing) and not also.step_true(also.first, thing)
            self.assertIs(is_step_apart(*given, thing), wanted)
            self.assertIs(is_plain_apart(*given, thing), wanted and is_plainly(thing))
        self.assertIs(is_plain_apart(*given, ("some", BOTH)), True)
        self.assertIs(is_plain_apart(*given, ("some", ("not", ("not", BOTH)))), False)

    def test_words_of_both(self):
        for wrong in (HEARD[:2], (), HEARD[:2] + (("tee", HEARD[2][1]),)):
            for call in APART + ASK:
                for more in ((None,), ((),), ([TRUE],)) if call in ASK else ((),):
                    self.assert_raises(Unfit, {}, call, CHOOSE_LATE, HEARD, CHOOSE_SOON, wrong, *more)
                    self.assert_raises(Unfit, {}, call, listed(CHOOSE_LATE), listed(wrong), listed(CHOOSE_SOON), listed(HEARD), *more)
        turned = tuple([(word, ("not", test)) for word, test in HEARD])
        self.assertEqual(rounds_apart(CHOOSE_LATE, HEARD, CHOOSE_LATE, turned), 0)
        self.assertIs(can_pair(CHOOSE_LATE, (), CHOOSE_SOON, ()), True)


class Lots(Case):
    def test_lots_and_least_models(self):
        for maker, one, ones, other, others, told, also in pairs_of_systems(218, 150, 9):
            last = rounds(told, told, True)[-1]
            wanted = sorted({tuple(sorted([later for state, later in last if state == here])) for here in told.states})
            self.assertEqual(lots(one, ones), wanted)
            homes = {state: at for at, row in enumerate(wanted) for state in row}
            first, sets, behind = least_model(one, ones)
            self.assertEqual(first, homes[told.first])
            self.assertEqual(sets, tuple([told.told[row[0]] for row in wanted]))
            for at, row in enumerate(wanted):
                for state in row:
                    self.assertEqual(behind[at], tuple(sorted({homes[goal] for goal in told.behind[state]})))
            for state, later in [(maker.pick(*told.states), maker.pick(*told.states)) for _ in range(5)]:
                self.assertIs(in_one_lot(one, ones, state, later), homes[state] == homes[later])
            model, least = (first, sets, behind), least_model(other, others)
            self.assertIs(self.are_renumbered(model, least), can_pair(one, ones, other, others))

    def are_renumbered(self, one, other):
        """Whether some renumbering leads from one least model to the other."""
        if sorted(one[1]) != sorted(other[1]):
            return False
        for row in itertools.permutations(range(len(one[1]))):
            if row[one[0]] == other[0] and all([other[1][row[at]] == told for at, told in enumerate(one[1])]):
                if all([set(other[2][row[at]]) == {row[goal] for goal in behind} for at, behind in enumerate(one[2])]):
                    return True
        return False


class Large(Case):
    def test_as_large_as_the_bounds_allow(self):
        one, other = free_clock((9, 9, 4)), free_clock((9, 9, 3))
        z, zero = ("cell", "z"), ("number", 0)
        alone = (("w", ("same", z, zero)),)
        every = (("w", ("and", ("same", z, zero), ("and", ("same", ("cell", "x"), zero), ("same", ("cell", "y"), zero)))),)
        for heard in ((), alone, every):
            for given in ((one, heard, one, heard), (one, heard, other, heard)):
                found = greatest_pairing(*given)
                self.assertIs(found is None, rounds_apart(*given) is not None)
                if found is not None:
                    self.assertIs(is_pairing(*given, found), True)
                else:
                    formula = step_apart(*given)
                    self.assertLess(len(repr(formula)), 10000)
                    self.assertIs(is_step_apart(*given, formula), True)
                found = greatest_following(*given)
                if found is not None:
                    self.assertIs(is_following(*given, found), True)
                else:
                    self.assertIs(is_plain_apart(*given, plain_apart(*given)), True)
        self.assertEqual([len(lots(one, heard)) for heard in ((), alone, every)], [1, 5, 275])

    def test_deep_formulas(self):
        count = ("let", "x", ("sum", ("cell", "x"), ONE))
        odd = ("pick", ((("when", ("same", ("cell", "x"), ("number", 0))), ("let", "y", ("sum", ("cell", "y"), ONE))), (("else",), ("pass",))))
        block = (("label", "top"), count, odd, ("go", "top"))
        one, other = [((("x", 9, 0), ("y", top, 0)), (), (("a", block),)) for top in (9, 8)]
        last = ("and", ("same", ("cell", "x"), ("number", 9)), ("and", ("same", ("cell", "y"), ("number", 8)), ("stands", "a", "top")))
        given = (one, (("p", last),), other, (("p", last),))
        self.assertGreater(rounds_apart(*given), 200)
        for formula, ask in ((step_apart(*given), is_step_apart), (plain_apart(*given), is_plain_apart)):
            self.assertIs(ask(*given, formula), True)
            self.assertIs(is_step_true(*given[:2], ((0,), (0, 0), (), -1), formula), True)
        self.assertEqual(steps_deep(step_apart(*given)), rounds_apart(*given))


if __name__ == "__main__":
    unittest.main()
