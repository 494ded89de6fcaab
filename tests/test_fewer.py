"""What is touched and shared, places apart, CHOICES, FEWER TURNS."""

import itertools
import unittest

from goings import Goings
from helper import JUNK, LOW, ONE, SET_X, X, Y, Case, Maker, changed_things, free_clock, listed, with_parts
from laps import plain_lap, some_laps
from plainmachines import closure, entries_of_rounds, met
from runclaims.errors import NoNumber, NoPart, Unfit
from runclaims.fewer import (
    alone_lap, apart_places, fewer_states, fewer_turns, good_choice, heard_touched, how_many, is_alone_lap,
    is_choice, is_good, may_go_alone, shared, touched,
)
from runclaims.formulas import has_next, opposite
from runclaims.makers import machine_for
from runclaims.systems import test_cells, test_labels, test_queues
from runclaims.tables import (
    end_of, held_places, how_many_places, label_place, step_asks, step_labels, step_lets, step_queues,
    step_reads, steps_at, steps_of,
)
from runclaims.verdicts import keeps

ANN = (("ann", (("let", "x", ONE), ("let", "y", ONE))), ("bob", (("pass",), ("pass",))))
SYSTEM = ((("x", 1, 0), ("y", 1, 0)), (), ANN)
UP = (("up", ("same", Y, ONE)),)
FEW = ((((0, 0), (0, 0), (), -1), "bob"), (((0, 1), (0, 0), (), -1), "bob"))
RING = ((("z", 1, 0),), (), (("cy", (("again", ((("pass",),),)),)), ("dan", (("let", "z", ONE),))))
REST = (((0, 0), (0,), (), -1), "cy")
FULL, TEST = ("full", "q"), ("stands", "b", "m")


def joined(rows):
    return tuple([tuple(sorted({one for row in rows for one in row[at]})) for at in range(3)])


def plain_touched(system, part, number):
    place, deed, _, _ = steps_of(system, part)[number]
    numbers = steps_at(system, part, place) if deed == ("else",) else (number,)
    return joined([
        (
            step_reads(system, part, at) + step_lets(system, part, at), step_queues(system, part, at),
            step_asks(system, part, at) + tuple([(part, label) for label in step_labels(system, part, at)]),
        )
        for at in numbers
    ])


def plain_heard(heard):
    return joined([(test_cells(test), test_queues(test), test_labels(test)) for _, test in heard])


def plain_shared(system, heard, part):
    rows = [plain_heard(heard)]
    for other, _ in system[2]:
        if other != part:
            rows.extend([plain_touched(system, other, at) for at in range(len(steps_of(system, other)))])
    return joined(rows)


def handed(system, part, place):
    """The queues of room 0 that STEPS from this place put into or get from."""
    rooms = {row[0]: row[1] for row in system[1]}
    deeds = [steps_of(system, part)[at][1] for at in steps_at(system, part, place)]
    return {deed[1] for deed in deeds if deed[0] in ("put", "get") and rooms[deed[1]] == 0}


def plain_apart(system, heard, part):
    common = plain_shared(system, heard, part)
    waited = set()
    for other, _ in system[2]:
        if other != part:
            elses = {step[0] for step in steps_of(system, other) if step[1] == ("else",)}
            for place in set(held_places(system, other)) | elses:
                waited |= handed(system, other, place)
    found = []
    for place in range(how_many_places(system, part)):
        good = place != end_of(system, part)
        for number in steps_at(system, part, place):
            own = plain_touched(system, part, number)
            _, _, goal, once = steps_of(system, part)[number]
            if once or any([set(one) & set(other) for one, other in zip(own, common)]) or handed(system, part, goal) & waited:
                good = False
        if good:
            found.append(place)
    return tuple(found)


class Fewer:
    """The STATES, and FEWER TURNS, by the words of the document."""

    def __init__(self, system, heard):
        self.goings, self.heard = Goings(system), heard
        self.states = self.goings.all_states()
        self.names = [row[0] for row in system[2]]
        self.apart = [plain_apart(system, heard, name) for name in self.names]

    def pairs(self, state, name):
        part = self.names.index(name)
        return tuple([turn for turn in self.goings.ready(state) if len(turn) == 2 and turn[0] == part])

    def turns(self, choice, state):
        told = dict(choice)
        return self.pairs(state, told[state]) if state in told else self.goings.ready(state)

    def leads(self, choice):
        return lambda state: [self.goings.after(state, turn) for turn in self.turns(choice, state)]

    def come(self, choice):
        return met([self.goings.begin()], self.leads(choice))

    def options(self):
        """All pairs that may stand in a CHOICE."""
        return [
            (state, name) for state in self.states for part, name in enumerate(self.names)
            if state[0][part] in self.apart[part] and self.pairs(state, name)
        ]

    def is_choice(self, thing):
        states = [state for state, _ in thing]
        if not all([pair in self.options() for pair in thing]):
            return False
        return list(thing) == sorted(thing) and len(set(states)) == len(states)

    def is_good(self, choice):
        told = dict(choice)
        nodes = [state for state in self.come(choice) if state in told]
        led = closure(nodes, lambda state: [goal for goal in self.leads(choice)(state) if goal in nodes])
        return not any([state in led[state] for state in nodes])


def samples(seed, many, most=14, words="p"):
    maker = Maker(seed)
    for _ in range(many):
        system = maker.small(most, parts=maker.random.randint(2, 3))
        yield maker, system, maker.heard(system, words)


def some_choice(maker, fewer):
    told = {}
    for state, name in fewer.options():
        if maker.random.random() < 0.5:
            told[state] = name
    return tuple(sorted(told.items()))


class Touching(Case):
    def test_what_is_touched(self):
        for _, system, heard in samples(181, 100, words="pq"):
            self.assertEqual(heard_touched(heard), plain_heard(heard))
            for name, _ in system[2]:
                self.assertEqual(shared(system, heard, name), plain_shared(system, heard, name))
                self.assertEqual(apart_places(system, heard, name), plain_apart(system, heard, name))
                for number in range(len(steps_of(system, name))):
                    self.assertEqual(touched(system, name, number), plain_touched(system, name, number))

    def test_each_thing_that_is_touched(self):
        again = ("again", ((("when", ("and", FULL, TEST)), SET_X), (("get", "h", "y"),), (("else",), ("put", "q", X))))
        system = with_parts((("label", "l"), ("let", "x", Y), ("label", "top"), again), (("pass",), ("label", "m"), ("pass",)))
        self.assertEqual(label_place(system, "a", "top"), 1)
        self.assertEqual(touched(system, "a", 0), (("x", "y"), (), (("a", "l"), ("a", "top"))))
        self.assertEqual(touched(system, "a", 1), ((), ("q",), (("a", "top"), ("b", "m"))))
        self.assertEqual(touched(system, "a", 2), (("y",), ("h",), ()))
        self.assertEqual(touched(system, "a", 3), (("y",), ("h", "q"), (("a", "top"), ("b", "m"))))
        self.assertEqual(touched(system, "b", 0), ((), (), (("b", "m"),)))
        self.assertEqual(shared(system, (("w", LOW),), "a"), (("x",), (), (("b", "m"),)))
        self.assertEqual(heard_touched(()), ((), (), ()))
        self.assertEqual(heard_touched((("v", ("not", ("or", FULL, TEST))), ("w", ("same", ("sum", X, Y), ONE)))), (("x", "y"), ("q",), (("b", "m"),)))

    def test_places_that_are_apart(self):
        once = ("once", (("pass",), ("pass",)))
        quiet, put, get = ("pass",), ("put", "h", ONE), ("get", "h", "y")
        for one, other, wanted in (
            ((quiet, quiet), (quiet,), (0, 1)), ((once, quiet), (quiet,), (1, 2)), ((SET_X, quiet), (SET_X,), (1,)),
            ((("pick", ((("when", ("full", "q")), quiet), (quiet,))), quiet), (("put", "q", ONE),), (1, 2)),
            ((quiet, put), (get,), (0,)), ((quiet, put), (("once", (quiet, get)),), ()), ((quiet, put), (("once", (get, quiet)),), (0,)),
            ((quiet, put), (("pick", ((get,), (("else",), quiet))),), ()), ((quiet, quiet, put), (("once", (quiet, get)),), (0,)),
            ((quiet, ("put", "q", ONE)), (("once", (quiet, ("get", "q", "y"))),), (0,)), ((quiet, get), (("once", (quiet, put)),), ()),
            ((quiet, put), (quiet,), (0, 1)), ((), (quiet,), ()), ((("label", "l"), quiet, quiet), (("when", ("stands", "a", "l")),), (1,)),
            ((("again", ((quiet,),)),), (("when", LOW),), (0,)), ((("again", ((("label", "l"), quiet),)),), (quiet,), None),
        ):
            system = with_parts(one, other)
            if wanted is not None:
                self.assertEqual(apart_places(system, (), "a"), wanted, (one, other))
                self.assertEqual(plain_apart(system, (), "a"), wanted)
        self.assertEqual(apart_places(with_parts((SET_X, quiet), ()), (("w", LOW),), "a"), (1,))
        self.assertEqual(apart_places(with_parts((SET_X, quiet), ()), (), "a"), (0, 1))

    def test_who_may_go_alone(self):
        for _, system, heard in samples(182, 50):
            fewer = Fewer(system, heard)
            for state in fewer.states:
                ready = {part for turn in fewer.goings.ready(state) for part in turn[::2]}
                wanted = [
                    name for part, name in enumerate(fewer.names) if part in ready and state[0][part] in fewer.apart[part]
                ]
                self.assertEqual(may_go_alone(system, heard, state), tuple(wanted))

    def test_errors(self):
        for name in ("x", "", "c", "AB"):
            self.assert_raises(NoPart, {"name": name}, touched, SYSTEM, name, 99)
            self.assert_raises(NoPart, {"name": name}, shared, SYSTEM, UP, name)
            self.assert_raises(NoPart, {"name": name}, apart_places, system=listed(SYSTEM), heard=listed(UP), part=name)
        for number in (-1, 2, 10 ** 30):
            self.assert_raises(NoNumber, {"number": number}, touched, SYSTEM, "ann", number)


class Choices(Case):
    def test_choices(self):
        counts = {True: 0, False: 0}
        for maker, system, heard in samples(183, 80):
            fewer = Fewer(system, heard)
            for choice in [(), some_choice(maker, fewer), some_choice(maker, fewer)] + [(pair,) for pair in fewer.options()[:4]]:
                self.assertIs(is_choice(system, heard, choice), True)
                good = fewer.is_good(choice)
                counts[good] += 1
                self.assertIs(is_good(system, heard, choice), good)
                lap = alone_lap(system, heard, choice)
                self.assertIs(lap is None, good)
                if lap is not None:
                    self.assertTrue(self.is_alone(fewer, choice, lap))
                    self.assertIs(is_alone_lap(system, heard, choice, lap), True)
                    self.assertIs(is_alone_lap(system, heard, choice, listed(lap)), False)
                for lap in some_laps(maker, fewer.goings, 3):
                    self.assertIs(is_alone_lap(system, heard, choice, lap), self.is_alone(fewer, choice, lap))
                self.assert_fewer(system, fewer, choice)
                if choice:
                    self.assertIs(is_choice(system, heard, listed(choice)), False)
                    for thing in list(changed_things(choice[:2]))[:50]:
                        wanted = self.has_shape(thing) and fewer.is_choice(thing)
                        self.assertIs(is_choice(system, heard, thing), wanted, thing)
        self.assertGreater(min(counts.values()), 20)

    def has_shape(self, thing):
        if type(thing) is not tuple or "True" in repr(thing) or "False" in repr(thing) or "[" in repr(thing):
            return False
        return all([type(pair) is tuple and len(pair) == 2 for pair in thing])

    def is_alone(self, fewer, choice, lap):
        states = plain_lap(fewer.goings, lap)
        turns = lap[0] + lap[1]
        if not all([turn in fewer.turns(choice, state) for state, turn in zip(states, turns)]):
            return False
        return all([state in dict(choice) for state in states[len(lap[0]):]])

    def assert_fewer(self, system, fewer, choice):
        come = fewer.come(choice)
        self.assertEqual(fewer_states(system, choice), sorted(come))
        self.assertEqual(how_many(system, choice), (len(fewer.states), len(come)))
        for state in fewer.states:
            self.assertEqual(fewer_turns(system, choice, state), fewer.turns(choice, state))

    def test_fewer_turns_of_parts_that_are_not_apart(self):
        here = ((0, 0), (0, 0), (), -1)
        self.assertEqual(fewer_turns(SYSTEM, ((here, "ann"),), here), ((0, 0),))
        there = ((1, 0), (1, 0), (), -1)
        self.assertEqual(fewer_turns(SYSTEM, ((there, "ann"),), there), ((0, 1),))
        self.assert_raises(Unfit, {}, alone_lap, SYSTEM, UP, ((there, "ann"),))
        self.assertEqual(how_many(SYSTEM, ((there, "ann"),)), (9, 9))

    def test_what_is_no_choice(self):
        (one, _), (two, _) = FEW
        far = ((0, 0), (1, 0), (), -1)
        wrong = (
            ((one, "ann"), (one, "bob")), ((far, "bob"),), ((one, "cy"),), ((one, ""),), ((((0, 2), (0, 0), (), -1), "bob"),),
            ((one, "x"),),
        )
        for choice in wrong:
            self.assertIs(is_choice(SYSTEM, UP, choice), False)
            self.assertIs(is_good(SYSTEM, UP, choice), False)
            self.assert_raises(Unfit, {}, alone_lap, SYSTEM, UP, choice)
            self.assert_raises(Unfit, {}, alone_lap, system=listed(SYSTEM), heard=listed(UP), choice=listed(choice))
            self.assert_raises(Unfit, {}, fewer_turns, SYSTEM, choice, two)
            self.assert_raises(Unfit, {}, fewer_states, SYSTEM, choice)
            self.assert_raises(Unfit, {}, how_many, SYSTEM, listed(choice))
            for thing in (None, ((), ((),)), ((), ())):
                self.assert_raises(Unfit, {}, is_alone_lap, SYSTEM, UP, choice, thing)
        for thing in JUNK + (FEW[::-1], FEW + FEW, ((one, None),), ((one, []),), ((one, True),), (one,), ((list(one), "bob"),), ((one, "bob", 0),), ((None, "bob"),)):
            wanted = thing == ()
            self.assertIs(is_choice(SYSTEM, UP, thing), wanted)
            self.assertIs(is_good(SYSTEM, UP, thing), wanted)
            self.assertIs(is_alone_lap(RING, (), (REST,), thing), False)
        self.assertIs(is_choice(SYSTEM, UP, FEW), True)

    def test_laps_alone(self):
        self.assertIs(is_alone_lap(RING, (), (REST,), ((), ((0, 0),))), True)
        self.assertIs(is_alone_lap(RING, (), (REST,), (((0, 0),) * 2, ((0, 0),) * 3)), True)
        self.assertIs(is_alone_lap(RING, (), (REST,), (((1, 0),), ((0, 0),))), False)
        self.assertIs(is_alone_lap(RING, (), (), ((), ((0, 0),))), False)
        lap = alone_lap(RING, (), (REST,))
        self.assertEqual(set(lap[0] + lap[1]), {(0, 0)})
        self.assertIsNone(alone_lap(RING, (), ()))
        self.assertEqual(good_choice(RING[:2] + (RING[2][:1],), ()), ())


class GoodChoices(Case):
    def test_there_is_a_pair_if_there_can_be_one(self):
        some = 0
        for _, system, heard in samples(184, 150):
            fewer = Fewer(system, heard)
            choice = good_choice(system, heard)
            self.assertTrue(fewer.is_choice(choice) and fewer.is_good(choice))
            self.assertIs(is_good(system, heard, choice), True)
            options = fewer.options()
            if choice == () and len(options) < 9:
                for many in range(1, len(options) + 1):
                    for thing in itertools.combinations(sorted(options), many):
                        self.assertFalse(fewer.is_choice(thing) and fewer.is_good(thing))
            elif choice == ():
                self.assertFalse(any([fewer.is_good((pair,)) for pair in options]))
            some += choice != ()
        self.assertGreater(some, 40)

    def test_what_good_choices_keep(self):
        """The guarantees: what FEWER LAPS tell, still STATES, checks broken."""
        less = 0
        for maker, system, heard in samples(185, 250, 25, "pq"):
            fewer = Fewer(system, heard)
            choice = good_choice(system, heard)
            other = some_choice(maker, fewer)
            for few in (choice, other if fewer.is_good(other) else ()):
                come = fewer.come(few)
                less += len(come) < len(fewer.states)
                formula = maker.formula("pq", 3)
                while has_next(formula):
                    formula = maker.formula("pq", 3)
                self.assertIs(keeps(system, heard, formula), self.kept_by_fewer(fewer, few, formula), (system, few))
                ready = fewer.goings.ready
                self.assertEqual({one for one in come if ready(one) == ((),)}, {one for one in fewer.states if ready(one) == ((),)})
                self.assertEqual(self.broken(fewer, few, come), self.broken(fewer, (), fewer.states))
        self.assertGreater(less, 40)

    def kept_by_fewer(self, fewer, choice, formula):
        machine = machine_for(opposite(formula))
        goings = fewer.goings

        def leads(pair):
            told = [word for word, test in fewer.heard if goings.test(pair[0], test)]
            goals = [row[3] for row in machine[2] if row[0] == pair[1] and set(row[1]) <= set(told) and not set(row[2]) & set(told)]
            return [(state, goal) for state in fewer.leads(choice)(pair[0]) for goal in goals]

        starts = [(goings.begin(), standing) for standing in machine[1]]
        return entries_of_rounds(starts, leads, lambda pair: pair[1], machine[3])[0] == []

    def broken(self, fewer, choice, states):
        found = set()
        for state in states:
            for turn in fewer.turns(choice, state):
                if len(turn) == 2:
                    deed = fewer.goings.steps[turn[0]][turn[1]][1]
                    if deed[0] == "check" and not fewer.goings.test(state, deed[1]):
                        found.add(turn)
        return found

    def test_as_large_as_the_bounds_allow(self):
        system = free_clock((9, 9, 4))
        choice = good_choice(system, (("w", ("same", ("cell", "z"), ONE)),))
        self.assertIs(is_good(system, (("w", ("same", ("cell", "z"), ONE)),), choice), True)
        self.assertEqual(how_many(system, choice)[0], 500)
        self.assertGreater(len(choice), 0)
        parts = tuple([(name, tuple([("let", name * 2, ONE)] * 6)) for name in "abc"])
        system = (tuple([(name * 2, 1, 0) for name in "abc"]), (), parts)
        choice = good_choice(system, ())
        self.assertEqual(how_many(system, choice), (343, 19))
        self.assertIs(is_good(system, (), choice), True)


if __name__ == "__main__":
    unittest.main()
