"""FEWER LAPS, what they keep, LAPS alike but for repeats."""

import unittest

from fewers import Fewer, samples, some_choice
from helper import JUNK, ONE, Case, changed_things, free_clock, listed
from laps import plain_lap, plain_told, some_laps
from runclaims.errors import NotReady, NoWord, Unfit
from runclaims.fewer import good_choice, is_good
from runclaims.fewerlaps import fewer_against, fewer_like, is_fewer_against, is_fewer_like, keeps_by_fewer
from runclaims.formulas import has_next, is_true
from runclaims.verdicts import against, keeps

X, Y, UP = ("cell", "x"), ("cell", "y"), ("word", "up")
SYSTEM = (
    (("x", 1, 0), ("y", 1, 0)), (),
    (("ann", (("let", "x", ONE), ("let", "y", ONE))), ("bob", (("pass",), ("pass",)))),
)
HEARD = (("up", ("same", Y, ONE)),)
FEW = ((((0, 0), (0, 0), (), -1), "bob"), (((0, 1), (0, 0), (), -1), "bob"))
LAP = (((0, 0), (0, 1), (1, 0), (1, 1)), ((),))
FIRST_BOB = (((1, 0), (1, 1), (0, 0), (0, 1)), ((),))
RING = ((("z", 1, 0),), (), (("cy", (("again", ((("pass",),),)),)), ("dan", (("let", "z", ONE),))))
REST = (((0, 0), (0,), (), -1), "cy")
HOPE = ("ever", UP)


def new_sets(loop, many=60):
    """The first sets of the run of a LOOP, each unlike the one ahead; many places are looked at."""
    sets = list(loop[0] + loop[1] * (many // len(loop[1]) + 1))
    return [told for at, told in enumerate(sets) if at == 0 or sets[at - 1] != told]


def are_alike_still(one, other):
    """Whether two LOOPS with few places are alike but for repeats."""
    first, second = new_sets(one, 400), new_sets(other, 400)
    many = min(len(first), len(second))
    # Where nothing new comes in so many places, nothing new comes at all.
    return first[:many] == second[:many] and (len(first) == len(second) or many > 60)


def still(maker, words="pq"):
    """A FORMULA without next."""
    while True:
        formula = maker.formula(words, 3)
        if not has_next(formula):
            return formula


def good_choices(seed, many, most):
    """Tuples of a maker, a system, HEARD words, what Fewer tells, a good CHOICE."""
    for number, (maker, system, heard) in enumerate(samples(seed, many, most, "pq")):
        if number % 2:
            system = maker.busy(most)
            heard = maker.heard(system, "pq")
        fewer = Fewer(system, heard)
        other = some_choice(maker, fewer)
        for choice in {good_choice(system, heard), other if fewer.is_good(other) else ()}:
            yield maker, system, heard, fewer, choice


class Kept(Case):
    def test_what_fewer_laps_keep(self):
        counts = {True: 0, False: 0}
        for maker, system, heard, fewer, choice in good_choices(191, 130, 20):
            for formula in (still(maker), ("always", ("ever", still(maker)))):
                told = fewer.keeps(choice, formula)
                counts[told] += choice != ()
                self.assertIs(keeps_by_fewer(system, heard, formula, choice), told)
                self.assertIs(keeps(system, heard, formula), told)
                lap = fewer_against(system, heard, formula, choice)
                self.assertIs(lap is None, told)
                if lap is not None:
                    self.assertTrue(fewer.is_lap(choice, lap))
                    self.assertFalse(is_true(formula, plain_told(fewer.goings, heard, lap)))
                    self.assertIs(is_fewer_against(system, heard, formula, choice, lap), True)
                    self.assertIs(is_fewer_against(system, heard, formula, choice, listed(lap)), False)
                for lap in some_laps(maker, fewer.goings, 3) + [against(system, heard, formula)]:
                    if lap is not None:
                        wanted = fewer.is_lap(choice, lap) and not is_true(formula, plain_told(fewer.goings, heard, lap))
                        self.assertIs(is_fewer_against(system, heard, formula, choice, lap), wanted)
        self.assertGreater(min(counts.values()), 20)

    def test_a_choice_that_is_empty(self):
        for maker, system, heard in samples(192, 40, 15, "pq"):
            formula = still(maker)
            self.assertIs(keeps_by_fewer(system, heard, formula, ()), keeps(system, heard, formula))
            lap = against(system, heard, formula)
            if lap is not None:
                self.assertIs(is_fewer_against(system, heard, formula, (), lap), True)

    def test_near_and_far_things(self):
        never = ("not", HOPE)
        lap = fewer_against(SYSTEM, HEARD, never, FEW)
        near = list(changed_things(lap))
        for thing in list(JUNK) + near + [((), ()), ((), ((),)), LAP, [FIRST_BOB[0], ((),)]]:
            wanted = plain_lap(Fewer(SYSTEM, HEARD).goings, thing) is not None and Fewer(SYSTEM, HEARD).is_lap(FEW, thing)
            self.assertIs(is_fewer_against(SYSTEM, HEARD, never, FEW, thing), wanted, thing)
            self.assertIs(is_fewer_against(SYSTEM, HEARD, HOPE, FEW, thing), False)
        self.assertIs(is_fewer_against(SYSTEM, HEARD, never, FEW, FIRST_BOB), True)

    def test_errors_in_their_order(self):
        wrong = (((((1, 2), (1, 0), (), -1), "bob"),), ((FEW[0][0], "cy"),), ((((0, 0), (1, 0), (), -1), "bob"),))
        lost = ("until", ("next", ("word", "far")), ("word", "low"))
        for call, more in ((keeps_by_fewer, ()), (fewer_against, ()), (is_fewer_against, (LAP,)), (is_fewer_against, (None,))):
            self.assert_raises(NoWord, {"name": "far"}, call, SYSTEM, HEARD, lost, wrong[0], *more)
            self.assert_raises(NoWord, {"name": "far"}, call, listed(SYSTEM), listed(HEARD), listed(lost), listed(FEW), *more)
            self.assert_raises(NoWord, {"name": "low"}, call, SYSTEM, HEARD, ("and", UP, ("word", "low")), FEW, *more)
            self.assert_raises(NoWord, {"name": "AB"}, call, SYSTEM, HEARD, ("word", "AB"), FEW, *more)
            for formula in (("next", UP), ("not", ("ever", ("next", ("true",)))), ("or", UP, ("until", UP, ("next", UP)))):
                self.assert_raises(Unfit, {}, call, SYSTEM, HEARD, formula, FEW, *more)
                self.assert_raises(Unfit, {}, call, SYSTEM, HEARD, formula, wrong[0], *more)
            for choice in wrong:
                self.assert_raises(Unfit, {}, call, SYSTEM, HEARD, HOPE, choice, *more)
                self.assert_raises(Unfit, {}, call, SYSTEM, HEARD, HOPE, listed(choice), *more)
            self.assert_raises(Unfit, {}, call, RING, (), ("true",), (REST,), *more)


class Like(Case):
    def test_laps_alike_but_for_repeats(self):
        others = 0
        for maker, system, heard, fewer, choice in good_choices(193, 120, 20):
            goings = fewer.goings
            laps = some_laps(maker, goings, 4)
            for lap in laps[:2]:
                told = plain_told(goings, heard, lap)
                found = fewer_like(system, heard, choice, lap)
                self.assertTrue(fewer.is_lap(choice, found))
                self.assertTrue(are_alike_still(told, plain_told(goings, heard, found)))
                self.assertIs(is_fewer_like(system, heard, choice, lap, found), True)
                self.assertIs(is_fewer_like(system, heard, choice, lap, listed(found)), False)
                others += found != lap
                for thing in laps:
                    wanted = fewer.is_lap(choice, thing) and are_alike_still(told, plain_told(goings, heard, thing))
                    self.assertIs(is_fewer_like(system, heard, choice, lap, thing), wanted)
        self.assertGreater(others, 60)

    def test_near_and_far_things(self):
        goings = Fewer(SYSTEM, HEARD).goings
        for thing in list(JUNK) + list(changed_things(FIRST_BOB)) + [LAP, ((), ((),))]:
            wanted = plain_lap(goings, thing) is not None and Fewer(SYSTEM, HEARD).is_lap(FEW, thing)
            self.assertIs(is_fewer_like(SYSTEM, HEARD, FEW, LAP, thing), wanted, thing)
        self.assertIs(is_fewer_like(SYSTEM, HEARD, FEW, LAP, FIRST_BOB), True)
        self.assertIs(is_fewer_like(SYSTEM, HEARD, FEW, LAP, (FIRST_BOB[0] + ((),), ((), ()))), True)
        # cy goes round alone for ever: dan is heard never, or once.
        heard = (("up", ("same", ("cell", "z"), ONE)),)
        alone, both = ((), ((0, 0),)), (((1, 0),), ((0, 0),))
        self.assertIs(is_fewer_like(RING, heard, (), alone, alone), True)
        self.assertIs(is_fewer_like(RING, heard, (), alone, both), False)
        self.assertIs(is_fewer_like(RING, heard, (), both, (((0, 0), (1, 0)), ((0, 0), (0, 0)))), True)

    def test_errors_in_their_order(self):
        for lap, error in (
            ((((1, 0), (5, 0)), ()), NotReady), ((((0, 1),), ((),)), NotReady), (((), ()), Unfit), (((), ((0, 0),)), Unfit),
            (((), ((0, 0), ())), NotReady), ((((0, 0),), ()), Unfit), ((((-1, 7),), ((),)), NotReady),
        ):
            for call, more in ((fewer_like, ()), (is_fewer_like, (LAP,)), (is_fewer_like, ("x",))):
                self.assert_raises(error, {}, call, SYSTEM, HEARD, FEW, lap, *more)
                self.assert_raises(error, {}, call, listed(SYSTEM), listed(HEARD), listed(FEW), listed(lap), *more)
                self.assert_raises(Unfit, {}, call, RING, (), (REST,), lap, *more)
                self.assert_raises(Unfit, {}, call, SYSTEM, HEARD, ((FEW[0][0], "cy"),), lap, *more)

    def test_as_large_as_the_bounds_allow(self):
        system, heard = free_clock((9, 9, 4)), (("w", ("same", ("cell", "z"), ONE)),)
        choice = good_choice(system, heard)
        self.assertIs(is_good(system, heard, choice), True)
        often = ("always", ("ever", ("word", "w")))
        self.assertIs(keeps_by_fewer(system, heard, often, choice), False)
        lap = against(system, heard, often)
        found = fewer_like(system, heard, choice, lap)
        self.assertIs(is_fewer_like(system, heard, choice, lap, found), True)
        self.assertIs(is_fewer_against(system, heard, often, choice, found), True)
        long = (((0, 0), (1, 0), (2, 0)) * 60, ((0, 0), (1, 0), (2, 0)) * 10)
        self.assertIs(is_fewer_like(system, heard, choice, long, fewer_like(system, heard, choice, long)), True)


if __name__ == "__main__":
    unittest.main()
