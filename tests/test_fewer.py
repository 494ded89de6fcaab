"""What is touched and shared, places apart, CHOICES, FEWER TURNS."""

import itertools
import unittest

from fewers import Fewer, plain_apart, plain_heard, plain_shared, plain_touched, samples, some_choice
from helper import JUNK, LOW, ONE, SET_X, X, Y, Case, changed_things, free_clock, listed, with_parts
from laps import plain_lap, some_laps
from runclaims.errors import NoNumber, NoPart, Unfit
from runclaims.fewer import (
    alone_lap, apart_places, fewer_states, fewer_turns, good_choice, heard_touched, how_many, is_alone_lap,
    is_choice, is_good, may_go_alone, shared, touched,
)
from runclaims.formulas import has_next
from runclaims.tables import label_place, steps_of
from runclaims.verdicts import keeps

ANN = (("ann", (("let", "x", ONE), ("let", "y", ONE))), ("bob", (("pass",), ("pass",))))
SYSTEM = ((("x", 1, 0), ("y", 1, 0)), (), ANN)
UP = (("up", ("same", Y, ONE)),)
FEW = ((((0, 0), (0, 0), (), -1), "bob"), (((0, 1), (0, 0), (), -1), "bob"))
RING = ((("z", 1, 0),), (), (("cy", (("again", ((("pass",),),)),)), ("dan", (("let", "z", ONE),))))
REST = (((0, 0), (0,), (), -1), "cy")
FULL, TEST = ("full", "q"), ("stands", "b", "m")


class Touching(Case):
    def test_what_is_touched(self):
        for _, system, heard in samples(181, 100, words="pq"):
            self.assertEqual(heard_touched(heard), plain_heard(heard))
            for name, _ in system[2]:
                self.assertEqual(shared(system, heard, name), plain_shared(system, heard, name))
                self.assertEqual(apart_places(system, heard, name), plain_apart(system, heard, name))
                for number in range(len(steps_of(system, name))):
                    self.assertEqual(touched(system, name, number), plain_touched(system, name, number))

    def test_each_thing_that_is_touched(self):
        again = ("again", ((("when", ("and", FULL, TEST)), SET_X), (("get", "h", "y"),), (("else",), ("put", "q", X))))
        system = with_parts((("label", "l"), ("let", "x", Y), ("label", "top"), again), (("pass",), ("label", "m"), ("pass",)))
        self.assertEqual(label_place(system, "a", "top"), 1)
        self.assertEqual(touched(system, "a", 0), (("x", "y"), (), (("a", "l"), ("a", "top"))))
        self.assertEqual(touched(system, "a", 1), ((), ("q",), (("a", "top"), ("b", "m"))))
        self.assertEqual(touched(system, "a", 2), (("y",), ("h",), ()))
        self.assertEqual(touched(system, "a", 3), (("y",), ("h", "q"), (("a", "top"), ("b", "m"))))
        self.assertEqual(touched(system, "b", 0), ((), (), (("b", "m"),)))
        self.assertEqual(shared(system, (("w", LOW),), "a"), (("x",), (), (("b", "m"),)))
        self.assertEqual(heard_touched(()), ((), (), ()))
        self.assertEqual(heard_touched((("v", ("not", ("or", FULL, TEST))), ("w", ("same", ("sum", X, Y), ONE)))), (("x", "y"), ("q",), (("b", "m"),)))

    def test_places_that_are_apart(self):
        once = ("once", (("pass",), ("pass",)))
        quiet, put, get = ("pass",), ("put", "h", ONE), ("get", "h", "y")
        for one, other, wanted in (
            ((quiet, quiet), (quiet,), (0, 1)), ((once, quiet), (quiet,), (1, 2)), ((SET_X, quiet), (SET_X,), (1,)),
            ((("pick", ((("when", ("full", "q")), quiet), (quiet,))), quiet), (("put", "q", ONE),), (1, 2)),
            ((quiet, put), (get,), (0,)), ((quiet, put), (("once", (quiet, get)),), ()), ((quiet, put), (("once", (get, quiet)),), (0,)),
            ((quiet, put), (("pick", ((get,), (("else",), quiet))),), ()), ((quiet, quiet, put), (("once", (quiet, get)),), (0,)),
            ((quiet, ("put", "q", ONE)), (("once", (quiet, ("get", "q", "y"))),), (0,)), ((quiet, get), (("once", (quiet, put)),), ()),
            ((quiet, put), (quiet,), (0, 1)), ((), (quiet,), ()), ((("label", "l"), quiet, quiet), (("when", ("stands", "a", "l")),), (1,)),
            ((("again", ((quiet,),)),), (("when", LOW),), (0,)), ((("again", ((("label", "l"), quiet),)),), (quiet,), None),
        ):
            system = with_parts(one, other)
            if wanted is not None:
                self.assertEqual(apart_places(system, (), "a"), wanted, (one, other))
                self.assertEqual(plain_apart(system, (), "a"), wanted)
        self.assertEqual(apart_places(with_parts((SET_X, quiet), ()), (("w", LOW),), "a"), (1,))
        self.assertEqual(apart_places(with_parts((SET_X, quiet), ()), (), "a"), (0, 1))

    def test_who_may_go_alone(self):
        for _, system, heard in samples(182, 50):
            fewer = Fewer(system, heard)
            for state in fewer.states:
                ready = {part for turn in fewer.goings.ready(state) for part in turn[::2]}
                wanted = [
                    name for part, name in enumerate(fewer.names) if part in ready and state[0][part] in fewer.apart[part]
                ]
                self.assertEqual(may_go_alone(system, heard, state), tuple(wanted))

    def test_errors(self):
        for name in ("x", "", "c", "AB"):
            self.assert_raises(NoPart, {"name": name}, touched, SYSTEM, name, 99)
            self.assert_raises(NoPart, {"name": name}, shared, SYSTEM, UP, name)
            self.assert_raises(NoPart, {"name": name}, apart_places, system=listed(SYSTEM), heard=listed(UP), part=name)
        for number in (-1, 2, 10 ** 30):
            self.assert_raises(NoNumber, {"number": number}, touched, SYSTEM, "ann", number)


class Choices(Case):
    def test_choices(self):
        counts = {True: 0, False: 0}
        for maker, system, heard in samples(183, 80):
            fewer = Fewer(system, heard)
            for choice in [(), some_choice(maker, fewer), some_choice(maker, fewer)] + [(pair,) for pair in fewer.options()[:4]]:
                self.assertIs(is_choice(system, heard, choice), True)
                good = fewer.is_good(choice)
                counts[good] += 1
                self.assertIs(is_good(system, heard, choice), good)
                lap = alone_lap(system, heard, choice)
                self.assertIs(lap is None, good)
                if lap is not None:
                    self.assertTrue(self.is_alone(fewer, choice, lap))
                    self.assertIs(is_alone_lap(system, heard, choice, lap), True)
                    self.assertIs(is_alone_lap(system, heard, choice, listed(lap)), False)
                for lap in some_laps(maker, fewer.goings, 3):
                    self.assertIs(is_alone_lap(system, heard, choice, lap), self.is_alone(fewer, choice, lap))
                self.assert_fewer(system, fewer, choice)
                if choice:
                    self.assertIs(is_choice(system, heard, listed(choice)), False)
                    for thing in list(changed_things(choice[:2]))[:50]:
                        wanted = self.has_shape(thing) and fewer.is_choice(thing)
                        self.assertIs(is_choice(system, heard, thing), wanted, thing)
        self.assertGreater(min(counts.values()), 20)

    def has_shape(self, thing):
        if type(thing) is not tuple or "True" in repr(thing) or "False" in repr(thing) or "[" in repr(thing):
            return False
        return all([type(pair) is tuple and len(pair) == 2 for pair in thing])

    def is_alone(self, fewer, choice, lap):
        states = plain_lap(fewer.goings, lap)
        return fewer.is_lap(choice, lap) and all([state in dict(choice) for state in states[len(lap[0]):]])

    def assert_fewer(self, system, fewer, choice):
        come = fewer.come(choice)
        self.assertEqual(fewer_states(system, choice), sorted(come))
        self.assertEqual(how_many(system, choice), (len(fewer.states), len(come)))
        for state in fewer.states:
            self.assertEqual(fewer_turns(system, choice, state), fewer.turns(choice, state))

    def test_fewer_turns_of_parts_that_are_not_apart(self):
        here = ((0, 0), (0, 0), (), -1)
        self.assertEqual(fewer_turns(SYSTEM, ((here, "ann"),), here), ((0, 0),))
        there = ((1, 0), (1, 0), (), -1)
        self.assertEqual(fewer_turns(SYSTEM, ((there, "ann"),), there), ((0, 1),))
        self.assert_raises(Unfit, {}, alone_lap, SYSTEM, UP, ((there, "ann"),))
        self.assertEqual(how_many(SYSTEM, ((there, "ann"),)), (9, 9))

    def test_what_is_no_choice(self):
        (one, _), (two, _) = FEW
        far = ((0, 0), (1, 0), (), -1)
        wrong = (
            ((one, "ann"), (one, "bob")), ((far, "bob"),), ((one, "cy"),), ((one, ""),), ((((0, 2), (0, 0), (), -1), "bob"),),
            ((one, "x"),),
        )
        for choice in wrong:
            self.assertIs(is_choice(SYSTEM, UP, choice), False)
            self.assertIs(is_good(SYSTEM, UP, choice), False)
            self.assert_raises(Unfit, {}, alone_lap, SYSTEM, UP, choice)
            self.assert_raises(Unfit, {}, alone_lap, system=listed(SYSTEM), heard=listed(UP), choice=listed(choice))
            self.assert_raises(Unfit, {}, fewer_turns, SYSTEM, choice, two)
            self.assert_raises(Unfit, {}, fewer_states, SYSTEM, choice)
            self.assert_raises(Unfit, {}, how_many, SYSTEM, listed(choice))
            for thing in (None, ((), ((),)), ((), ())):
                self.assert_raises(Unfit, {}, is_alone_lap, SYSTEM, UP, choice, thing)
        for thing in JUNK + (FEW[::-1], FEW + FEW, ((one, None),), ((one, []),), ((one, True),), (one,), ((list(one), "bob"),), ((one, "bob", 0),), ((None, "bob"),)):
            wanted = thing == ()
            self.assertIs(is_choice(SYSTEM, UP, thing), wanted)
            self.assertIs(is_good(SYSTEM, UP, thing), wanted)
            self.assertIs(is_alone_lap(RING, (), (REST,), thing), False)
        self.assertIs(is_choice(SYSTEM, UP, FEW), True)

    def test_laps_alone(self):
        self.assertIs(is_alone_lap(RING, (), (REST,), ((), ((0, 0),))), True)
        self.assertIs(is_alone_lap(RING, (), (REST,), (((0, 0),) * 2, ((0, 0),) * 3)), True)
        self.assertIs(is_alone_lap(RING, (), (REST,), (((1, 0),), ((0, 0),))), False)
        self.assertIs(is_alone_lap(RING, (), (), ((), ((0, 0),))), False)
        lap = alone_lap(RING, (), (REST,))
        self.assertEqual(set(lap[0] + lap[1]), {(0, 0)})
        self.assertIsNone(alone_lap(RING, (), ()))
        self.assertEqual(good_choice(RING[:2] + (RING[2][:1],), ()), ())


class GoodChoices(Case):
    def test_there_is_a_pair_if_there_can_be_one(self):
        some = 0
        for _, system, heard in samples(184, 150):
            fewer = Fewer(system, heard)
            choice = good_choice(system, heard)
            self.assertTrue(fewer.is_choice(choice) and fewer.is_good(choice))
            self.assertIs(is_good(system, heard, choice), True)
            options = fewer.options()
            if choice == () and len(options) < 9:
                for many in range(1, len(options) + 1):
                    for thing in itertools.combinations(sorted(options), many):
                        self.assertFalse(fewer.is_choice(thing) and fewer.is_good(thing))
            elif choice == ():
                self.assertFalse(any([fewer.is_good((pair,)) for pair in options]))
            some += choice != ()
        self.assertGreater(some, 40)

    def test_what_good_choices_keep(self):
        """The guarantees: what FEWER LAPS tell, still STATES, checks broken."""
        less = 0
        for maker, system, heard in samples(185, 250, 25, "pq"):
            fewer = Fewer(system, heard)
            choice = good_choice(system, heard)
            other = some_choice(maker, fewer)
            for few in (choice, other if fewer.is_good(other) else ()):
                come = fewer.come(few)
                less += len(come) < len(fewer.states)
                formula = maker.formula("pq", 3)
                while has_next(formula):
                    formula = maker.formula("pq", 3)
                self.assertIs(keeps(system, heard, formula), fewer.keeps(few, formula), (system, few))
                ready = fewer.goings.ready
                self.assertEqual({one for one in come if ready(one) == ((),)}, {one for one in fewer.states if ready(one) == ((),)})
                self.assertEqual(self.broken(fewer, few, come), self.broken(fewer, (), fewer.states))
        self.assertGreater(less, 40)

    def broken(self, fewer, choice, states):
        found = set()
        for state in states:
            for turn in fewer.turns(choice, state):
                if len(turn) == 2:
                    deed = fewer.goings.steps[turn[0]][turn[1]][1]
                    if deed[0] == "check" and not fewer.goings.test(state, deed[1]):
                        found.add(turn)
        return found

    def test_as_large_as_the_bounds_allow(self):
        system = free_clock((9, 9, 4))
        choice = good_choice(system, (("w", ("same", ("cell", "z"), ONE)),))
        self.assertIs(is_good(system, (("w", ("same", ("cell", "z"), ONE)),), choice), True)
        self.assertEqual(how_many(system, choice)[0], 500)
        self.assertGreater(len(choice), 0)
        parts = tuple([(name, tuple([("let", name * 2, ONE)] * 6)) for name in "abc"])
        system = (tuple([(name * 2, 1, 0) for name in "abc"]), (), parts)
        choice = good_choice(system, ())
        self.assertEqual(how_many(system, choice), (343, 19))
        self.assertIs(is_good(system, (), choice), True)


if __name__ == "__main__":
    unittest.main()
