"""What can be come to: STATES, ROWS, what is stuck, broken, always so, lost."""

import unittest

from goings import Goings
from helper import JUNK, LOW, Case, Maker, changed_things, free_clock, listed, ring, with_parts
from plainmachines import closure
from runclaims.errors import NoCell, NoNumber, NoPart, NoQueue, Unfit
from runclaims.reach import (
    all_states, always_so, broken_checks, broken_row, can_still, depth, ended_states, fence, held_ever,
    how_many_rows, how_many_states, is_broken_row, is_come_to, is_fence, is_row_to, layers, longest_row,
    lost_row, lost_states, most_in, never_both, never_stood, never_taken, row_against, shortest_row,
    soonest, stuck_row, stuck_states, surely_rests, turns_in, who_waits,
)
from runclaims.states import is_state

X, ONE = ("cell", "x"), ("number", 1)
PASS, SET_X = ("pass",), ("let", "x", ONE)
CHECK = ("check", LOW)
ENDED = with_parts((), ())
EVER, NEVER = ("same", ONE, ONE), ("less", ONE, ONE)


class Plain:
    """All that can be come to, told by growing all ROWS."""

    def __init__(self, system):
        self.system, self.goings = system, Goings(system)
        self.states = self.goings.all_states()
        self.names = [row[0] for row in system[2]]
        # For each STATE the least of the shortest ROWS; ROWS of one length are grown together.
        self.rows = {self.goings.begin(): ()}
        layer = dict(self.rows)
        while layer:
            ahead = {}
            for state, row in layer.items():
                for turn, goal in self.turns(state):
                    if goal not in self.rows:
                        ahead[goal] = min(ahead.get(goal, row + (turn,)), row + (turn,))
            self.rows.update(ahead)
            layer = ahead

    def turns(self, state):
        return [(turn, self.goings.after(state, turn)) for turn in self.goings.ready(state) if turn != ()]

    def leads(self, state):
        return [goal for _, goal in self.turns(state)]

    def nearest(self, states):
        return min([self.rows[state] for state in states], key=lambda row: (len(row), row), default=None)

    def so(self, test):
        return [state for state in self.states if self.goings.test(state, test)]

    def is_row(self, thing):
        """The STATES along a ROW; None if thing is none."""
        if type(thing) is not tuple:
            return None
        found = [self.goings.begin()]
        for turn in thing:
            if type(turn) is not tuple or not all([type(number) is int for number in turn]):
                return None
            if turn == () or turn not in self.goings.ready(found[-1]):
                return None
            found.append(self.goings.after(found[-1], turn))
        return found

    def is_fence(self, test, thing):
        """Whether a tuple of STATES is a FENCE."""
        return (
            list(thing) == sorted(set(thing)) and self.goings.begin() in thing
            and all([self.goings.test(state, test) for state in thing])
            and all([goal in thing for state in thing for goal in self.leads(state)])
        )


def samples(seed, many, most=25):
    maker = Maker(seed)
    for _ in range(many):
        system = maker.small(most, parts=maker.random.randint(1, 3))
        yield maker, system, Plain(system)


def some_test(maker, system):
    return maker.heard(system, "p")[0][1]


class States(Case):
    def test_states_that_are_come_to(self):
        for maker, system, plain in samples(171, 70):
            self.assertEqual(all_states(system), sorted(plain.states))
            self.assertEqual(how_many_states(system), len(plain.states))
            self.assertEqual(turns_in(system), sum([len(plain.turns(state)) for state in plain.states]))
            far = {state: len(row) for state, row in plain.rows.items()}
            wanted = [sorted([one for one in far if far[one] == at]) for at in range(max(far.values()) + 1)]
            self.assertEqual(layers(system), wanted)
            for state in maker.random.sample(plain.states, min(5, len(plain.states))):
                self.assertEqual(depth(system, state), far[state])
                row = shortest_row(system, state)
                self.assertEqual(row, plain.rows[state])
                self.assertIs(is_row_to(system, state, row), True)
                self.assertIs(is_row_to(system, state, listed(row)), False)
                self.assertIs(is_come_to(system, state), True)
                self.assertIs(is_come_to(system, list(state)), False)
                for thing in list(changed_things(state))[:30]:
                    self.assertIs(is_come_to(system, thing), is_state(system, thing) and thing in plain.states, thing)

    def test_what_is_not_come_to(self):
        far = ((0, 0), (2, 2), ((), ()), -1)
        for thing in JUNK + (far, ((0, 0), (0, 0), ((), ()), 0), ((0, False), (0, 0), ((), ()), -1), ((0, 0), (0, 0), ((), ()))):
            self.assertIs(is_come_to(ENDED, thing), False)
        self.assertIs(is_come_to(ENDED, ((0, 0), (0, 0), ((), ()), -1)), True)
        self.assertIsNone(depth(ENDED, far))
        self.assertIsNone(shortest_row(ENDED, list(far)))
        self.assertEqual(how_many_rows(ENDED, far, 0), 0)
        self.assertIs(is_row_to(ENDED, far, ()), False)

    def test_rows(self):
        for maker, system, plain in samples(172, 30, 12):
            counts = {plain.goings.begin(): 1}
            for number in range(6):
                for state in plain.states:
                    self.assertEqual(how_many_rows(system, state, number), counts.get(state, 0))
                ahead = {}
                for state, many in counts.items():
                    for goal in plain.leads(state):
                        ahead[goal] = ahead.get(goal, 0) + many
                counts = ahead
            state = maker.pick(*plain.states)
            for thing in list(changed_things(plain.rows[state])) + list(JUNK):
                told = plain.is_row(thing)
                self.assertIs(is_row_to(system, state, thing), told is not None and told[-1] == state)
        self.assertEqual(how_many_rows(ENDED, ((0, 0), (0, 0), ((), ()), -1), 0), 1)
        self.assertEqual(how_many_rows(ENDED, ((0, 0), (0, 0), ((), ()), -1), 1), 0)

    def test_the_idle_turn_is_none(self):
        here = ((0, 0), (0, 0), ((), ()), -1)
        self.assertEqual((turns_in(ENDED), depth(ENDED, here), longest_row(ENDED)), (0, 0, 0))
        self.assertIs(is_row_to(ENDED, here, ((),)), False)
        self.assertIs(is_row_to(ENDED, here, ()), True)
        self.assertEqual((layers(ENDED), surely_rests(ENDED), shortest_row(ENDED, here)), ([[here]], True, ()))


class Standing(Case):
    def test_still_states(self):
        seen = [0, 0]
        for maker, system, plain in samples(173, 120):
            stuck, ended = plain_still(plain)
            seen = [seen[0] + len(stuck), seen[1] + len(ended)]
            self.assertEqual(stuck_states(system), sorted(stuck))
            self.assertEqual(ended_states(system), sorted(ended))
            self.assertEqual(stuck_row(system), plain.nearest(stuck))
            for state in maker.random.sample(plain.states, min(6, len(plain.states))):
                if state in stuck + ended:
                    wanted = [(name, place) for name, place, end in zip(plain.names, state[0], ends_of(plain)) if place != end]
                    self.assertEqual(who_waits(system, state), tuple(wanted))
                else:
                    self.assert_raises(Unfit, {}, who_waits, system, state)
            led = closure(plain.states, plain.leads)
            longest = None
            if not any([state in led[state] for state in plain.states]):
                known = {}
                longest = longest_from(plain, plain.goings.begin(), known)
            self.assertEqual(longest_row(system), longest)
            self.assertIs(surely_rests(system), longest is not None)
        self.assertGreater(min(seen), 20)

    def test_a_holder_that_waits_is_not_still(self):
        system = with_parts((("once", (PASS, ("when", NEVER))),), ())
        self.assert_raises(Unfit, {}, who_waits, system, ((1, 0), (0, 0), ((), ()), 0))
        self.assertEqual(who_waits(system, ((1, 0), (0, 0), ((), ()), -1)), (("a", 1),))
        self.assertEqual(who_waits(system, ((2, 0), (0, 0), ((), ()), -1)), ())

    def test_what_never_is(self):
        for _, system, plain in samples(174, 60):
            taken = {turn[at:at + 2] for state in plain.states for turn in plain.goings.ready(state) for at in range(0, len(turn), 2)}
            wanted = [
                (name, number) for part, name in enumerate(plain.names)
                for number in range(len(plain.goings.steps[part])) if (part, number) not in taken
            ]
            self.assertEqual(never_taken(system), tuple(wanted))
            places = [range(end + 1) for end in ends_of(plain)]
            stood = [{state[0][part] for state in plain.states} for part in range(len(plain.names))]
            wanted = [
                (name, place) for part, name in enumerate(plain.names) for place in places[part] if place not in stood[part]
            ]
            self.assertEqual(never_stood(system), tuple(wanted))
            for one, part in enumerate(plain.names):
                for two, other in enumerate(plain.names):
                    if one == two:
                        self.assert_raises(Unfit, {}, never_both, system, part, other)
                        continue
                    met = {(state[0][one], state[0][two]) for state in plain.states}
                    wanted = {(here, there) for here in stood[one] for there in stood[two]} - met
                    self.assertEqual(never_both(system, part, other), tuple(sorted(wanted)))
            for at, row in enumerate(system[0]):
                self.assertEqual(held_ever(system, row[0]), tuple(sorted({state[1][at] for state in plain.states})))
            for at, row in enumerate(system[1]):
                self.assertEqual(most_in(system, row[0]), max([len(state[2][at]) for state in plain.states]))

    def test_checks(self):
        some = 0
        for maker, system, plain in samples(175, 150):
            broken = {}
            for state in plain.states:
                for turn, _ in plain.turns(state):
                    deed = plain.goings.steps[turn[0]][turn[1]][1]
                    if deed[0] == "check" and not plain.goings.test(state, deed[1]):
                        broken.setdefault(turn, []).append(state)
            wanted = sorted([(plain.names[turn[0]], turn[1]) for turn in broken])
            some += len(wanted)
            self.assertEqual(broken_checks(system), tuple(wanted))
            for part, name in enumerate(plain.names):
                for number, step in enumerate(plain.goings.steps[part]):
                    if step[1][0] != "check":
                        self.assert_raises(Unfit, {}, broken_row, system, name, number)
                        self.assert_raises(Unfit, {}, is_broken_row, system, name, number, None)
                        continue
                    row = plain.nearest(broken.get((part, number), []))
                    row = None if row is None else row + ((part, number),)
                    self.assertEqual(broken_row(system, name, number), row)
                    self.assertIs(is_broken_row(system, name, number, ()), False)
                    if row is not None:
                        self.assertIs(is_broken_row(system, name, number, row), True)
                        for thing in changed_things(row):
                            told = plain.is_row(thing)
                            good = bool(told) and thing != () and thing[-1] == (part, number) and not plain.goings.test(told[-2], step[1][1])
                            self.assertIs(is_broken_row(system, name, number, thing), good, thing)
        self.assertGreater(some, 10)


class Tests(Case):
    def test_what_is_so(self):
        seen = [0, 0]
        for maker, system, plain in samples(176, 120):
            test = maker.pick(some_test(maker, system), ("not", some_test(maker, system)), EVER, NEVER)
            so = plain.so(test)
            seen[len(so) == len(plain.states)] += 1
            self.assertIs(always_so(system, test), len(so) == len(plain.states))
            self.assertEqual(row_against(system, test), plain.nearest([one for one in plain.states if one not in so]))
            found = fence(system, test)
            self.assertIs(found is not None, len(so) == len(plain.states))
            if found is not None:
                self.assertTrue(plain.is_fence(test, found))
                self.assertIs(is_fence(system, test, found), True)
                for thing in (found[1:], found[:-1], found + found[-1:], list(found), listed(found), ()):
                    self.assertIs(is_fence(system, test, thing), False)
            self.assertIs(is_fence(system, test, tuple(sorted(plain.states))), len(so) == len(plain.states))
            led = closure(plain.states, plain.leads)
            lost = [state for state in plain.states if state not in so and not set(led[state]) & set(so)]
            self.assertEqual(lost_states(system, test), sorted(lost))
            self.assertIs(can_still(system, test), lost == [])
            self.assertEqual(lost_row(system, test), plain.nearest(lost))
            for state in maker.random.sample(plain.states, min(4, len(plain.states))):
                self.assertEqual(soonest(system, state, test), plain_soonest(plain, state, test))
        self.assertGreater(min(seen), 10)

    def test_fences_of_states_that_are_not_come_to(self):
        system = with_parts((SET_X,), ())
        here, behind = ((0, 0), (0, 0), ((), ()), -1), ((1, 0), (1, 0), ((), ()), -1)
        beside = ((1, 0), (3, 0), ((), ()), -1)
        ahead = ((0, 0), (2, 0), ((), ()), -1)
        held = ((1, 0), (1, 0), ((), ()), 1)
        plain = Plain(system)
        for thing in (
            (here, behind), (here, behind, beside), (here, ahead, behind), (here, ahead), (behind, here), (here, behind, behind), (behind,),
            (here, behind, held), (here, held),
        ):
            thing = thing if thing == (behind, here) else tuple(sorted(thing))
            for test in (EVER, LOW, ("less", X, ("number", 3)), NEVER):
                self.assertIs(is_fence(system, test, thing), plain.is_fence(test, thing), (test, thing))
        good = tuple(sorted((here, behind)))
        self.assertIs(is_fence(system, EVER, good), True)
        for thing in JUNK + tuple(changed_things(good)):
            shaped = type(thing) is tuple and all([is_state(system, state) for state in thing])
            self.assertIs(is_fence(system, EVER, thing), shaped and plain.is_fence(EVER, thing), thing)

    def test_soonest_from_states_that_are_not_come_to(self):
        system = with_parts((SET_X, SET_X), ())
        self.assertEqual(soonest(system, ((0, 0), (3, 0), ((), ()), -1), LOW), 1)
        self.assertEqual(soonest(system, ((2, 0), (3, 0), ((), ()), -1), LOW), None)
        self.assertEqual(soonest(system, [[2, 0], [1, 0], [[], []], -1], LOW), 0)
        # Nobody but the holder may go on, and it can't.
        self.assertIsNone(soonest(system, ((0, 0), (3, 0), ((), ()), 1), LOW))


class Errors(Case):
    def test_errors_and_their_order(self):
        system = with_parts((SET_X, CHECK), (PASS,))
        for name in ("x", "q", "", "A", "aa"):
            self.assert_raises(NoPart, {"name": name}, broken_row, system, name, 99)
            self.assert_raises(NoPart, {"name": name}, is_broken_row, system, name, 99, None)
            self.assert_raises(NoPart, {"name": name}, never_both, system, name, name)
            self.assert_raises(NoPart, {"name": name}, never_both, system, "a", name)
            self.assert_raises(NoPart, {"name": name}, never_both, system, name, "zz")
        for name in ("q", "a", "", "xx"):
            self.assert_raises(NoCell, {"name": name}, held_ever, system, name)
        for name in ("x", "a", "", "qq"):
            self.assert_raises(NoQueue, {"name": name}, most_in, system, name)
        for number in (-1, 2, 10 ** 30):
            self.assert_raises(NoNumber, {"number": number}, broken_row, system, "a", number)
            self.assert_raises(NoNumber, {"number": number}, is_broken_row, system=system, part="a", step=number, thing=3)
        self.assert_raises(Unfit, {}, broken_row, system, "a", 0)
        self.assert_raises(Unfit, {}, is_broken_row, system, "b", 0, ((1, 0),))
        self.assert_raises(Unfit, {}, never_both, system, "b", "b")
        here = ((0, 0), (0, 0), ((), ()), -1)
        for number in (-1, -10 ** 30):
            self.assert_raises(NoNumber, {"number": number}, how_many_rows, system, here, number)
        self.assert_raises(Unfit, {}, who_waits, system, here)


class LargeReach(Case):
    def test_as_large_as_the_bounds_allow(self):
        for system, many, far in ((free_clock((9, 9, 4)), 500, 22), (ring(7, (9, 6)), 490, 489)):
            self.assertEqual(how_many_states(system), many)
            self.assertEqual(len(layers(system)), far + 1)
            self.assertIsNone(longest_row(system))
            last = layers(system)[far][0]
            self.assertEqual(len(shortest_row(system, last)), far)
            self.assertGreater(how_many_rows(system, last, far) if far < 60 else 1, 0)
            cell = system[0][0][0]
            test = ("not", ("same", ("cell", cell), ("number", 9)))
            self.assertIs(can_still(system, test), True)
            self.assertEqual(len(row_against(system, test)), 9 if far == 22 else 57)
            self.assertIs(is_fence(system, EVER, fence(system, EVER)), True)
            self.assertEqual((stuck_states(system), ended_states(system), broken_checks(system)), ([], [], ()))
        self.assertGreater(how_many_rows(free_clock((9, 9, 4)), free_begin(), 60), 10 ** 20)


def free_begin():
    return ((0, 0, 0), (0, 0, 0), (), -1)


def ends_of(plain):
    return [spots.place(spots.end) for spots in plain.goings.spots]


def plain_still(plain):
    """The stuck STATES, the ended ones."""
    still = [state for state in plain.states if plain.goings.ready(state) == ((),)]
    ended = [state for state in still if list(state[0]) == ends_of(plain)]
    return [state for state in still if state not in ended], ended


def longest_from(plain, state, known):
    if state not in known:
        known[state] = max([longest_from(plain, goal, known) + 1 for goal in plain.leads(state)], default=0)
    return known[state]


def plain_soonest(plain, state, test):
    layer, met = [state], set()
    for number in range(len(plain.states) + 1):
        if any([plain.goings.test(one, test) for one in layer]):
            return number
        met.update(layer)
        layer = [goal for goal in {goal: 0 for one in layer for goal in plain.leads(one)} if goal not in met]
    return None


if __name__ == "__main__":
    unittest.main()
