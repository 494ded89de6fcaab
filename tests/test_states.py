"""Joint states, and the turns that lead from one to another."""

import unittest

from goings import Goings
from helper import JUNK, LOW, ONE, SAMPLE, SET_X, TWO, Case, Maker, X, Y, listed, with_parts
from runclaims.errors import NoCell, NoNumber, NoPart, NoQueue, NotReady, Unfit
from runclaims.states import (
    after, begin, breaks, broken, can_take, do_commute, ended_parts, held_in, holder_of, is_so,
    is_state, is_still, is_turns, last_state, led_by, lying, number_at, place_at, ready, ready_for,
    shut_parts, shut_steps, states, swapped, taking_part, told_along, told_at,
)
from runclaims.tables import end_of, step_lets, step_of, step_queues, step_reads
from runclaims.systems import asks_labels, part_names

PASS, ELSE = ("pass",), ("else",)
PUT, GET = ("put", "q", X), ("get", "q", "y")
GIVE, TAKE = ("put", "h", X), ("get", "h", "y")
NEVER = ("less", ONE, ONE)


def number(value):
    return ("number", value)


class Forms(Case):
    def test_begin(self):
        self.assertEqual(begin(SAMPLE), ((0, 0), (0, 0), ((),), -1))
        self.assertEqual(begin(((("c", 3, 2),), (), (("p", ()),))), ((0,), (2,), (), -1))
        self.assertEqual(begin(((), (), (("p", ()),))), ((0,), (), (), -1))

    def test_states(self):
        for state in (
            begin(SAMPLE), ((4, 3), (3, 3), ((3,),), 1), ((2, 1), (0, 3), ((0,),), 0), ((0, 0), (0, 0), ((),), 1),
        ):
            self.assertIs(is_state(SAMPLE, state), True)
            self.assertIs(is_state(SAMPLE, listed(state)), False)
        for state in (
            ((5, 0), (0, 0), ((),), -1), ((0, 4), (0, 0), ((),), -1), ((-1, 0), (0, 0), ((),), -1),
            ((0,), (0, 0), ((),), -1), ((0, 0, 0), (0, 0), ((),), -1), ((0, 0), (4, 0), ((),), -1),
            ((0, 0), (0, -1), ((),), -1), ((0, 0), (0,), ((),), -1), ((0, 0), (0, 0), (), -1),
            ((0, 0), (0, 0), ((4,),), -1), ((0, 0), (0, 0), ((0, 0),), -1), ((0, 0), (0, 0), ((), ()), -1),
            ((0, 0), (0, 0), ((),), -2), ((0, 0), (0, 0), ((),), 2), ((0, 0), (0, 0), ((),), None),
            ((0, 0), (0, 0), ((),)), ((0, 0), (0, 0), ((),), -1, 0), ((False, 0), (0, 0), ((),), -1),
            ((0, 0), (True, 0), ((),), -1), ((0, 0), (0, 0), ((True,),), -1), ((0, 0), (0, 0), ((),), True),
            ((0, 0), (0, 0), ([],), -1), ([0, 0], (0, 0), ((),), -1), ((0, 0), (0, 0), [()], -1), ((0, 0), (0, 0), (None,), -1),
            ((0, 0), None, ((),), -1), ((0, 0), (0, 0), 1, -1), ("ab", (0, 0), ((),), -1), ((0, 0), (0, 0), ((-1,),), -1),
        ):
            self.assertIs(is_state(SAMPLE, state), False, state)
        roomless = with_parts((GIVE,), (TAKE,))
        self.assertIs(is_state(roomless, ((0, 0), (0, 0), ((), (0, 3)), -1)), True)
        self.assertIs(is_state(roomless, ((0, 0), (0, 0), ((0,), ()), -1)), False)
        for junk in JUNK:
            self.assertIs(is_state(SAMPLE, junk), False)

    def test_turns(self):
        system = with_parts((GIVE, PASS), (TAKE,))
        for thing in ((), ((0, 0, 1, 0),), ((0, 0, 1, 0), (0, 1)), ((0, 0, 1, 0), (0, 1), (), ())):
            self.assertIs(is_turns(system, thing), True)
            self.assertIs(is_turns(system, listed(thing)), False)
        for thing in (
            ((),), ((0, 0),), ((1, 0),), ((1, 0, 0, 0),), ((0, 0, 1, 0), ()), ((0, 0, 1, 0), (0, 0)), (0, 0),
            ((0, 0, 1),), ((False, 0, 1, 0),), ((0, 0, True, 0),), ([0, 0, 1, 0],), ((0, 0, 1, 0), (0, True)),
            ((0, 0, 1, 0), (0, 1), None), ((0, 0, 1, 0), (0, 1), 0), ("ab",), ((0, 0, 1, 0), [0, 1]),
            ((-2, 0, 1, 0),), ((0, -2, 1, 0),), ((0, 0, 1, 0), (0, 1), [()]), ((0, 0, 1, 0), (0, 1), (0, 1)),
        ):
            self.assertIs(is_turns(system, thing), False, thing)
        for junk in JUNK:
            self.assertIs(is_turns(system, junk), junk == () and isinstance(junk, tuple), junk)


class Asked(Case):
    def test_values_and_tests(self):
        state = ((1, 0), (3, 2), ((1,),), -1)
        for value, wanted in (
            (number(7), 7), (X, 3), (("sum", X, Y), 5), (("gap", Y, number(9)), -7), (("times", X, ("gap", Y, X)), -3),
        ):
            self.assertEqual(number_at(SAMPLE, state, value), wanted)
        for test, wanted in (
            (LOW, False), (("less", Y, X), True), (("same", X, number(3)), True), (("same", X, Y), False),
            (("full", "q"), True), (("empty", "q"), False), (("stands", "a", "top"), True),
            (("less", ("gap", Y, X), number(0)), True), (("not", ("full", "q")), False),
            (("and", ("full", "q"), LOW), False), (("or", ("full", "q"), LOW), True), (("or", LOW, LOW), False),
            (("or", LOW, ("full", "q")), True), (("and", LOW, ("full", "q")), False),
            (("less", X, X), False),
        ):
            self.assertIs(is_so(SAMPLE, state, test), wanted)
        self.assertIs(is_so(SAMPLE, begin(SAMPLE), ("empty", "q")), True)
        self.assertIs(is_so(SAMPLE, begin(SAMPLE), ("stands", "a", "top")), False)
        half = with_parts((PUT,), ())
        self.assertIs(is_so(half, ((1, 0), (0, 0), ((), (0,)), -1), ("or", ("full", "q"), ("empty", "q"))), False)

    def test_parts_of_states(self):
        state = ((1, 2), (3, 2), ((1,),), 1)
        self.assertEqual([place_at(SAMPLE, state, part) for part in "ab"], [1, 2])
        self.assertEqual([held_in(SAMPLE, state, cell) for cell in "xy"], [3, 2])
        self.assertEqual(lying(SAMPLE, state, "q"), (1,))
        self.assertEqual((holder_of(SAMPLE, state), holder_of(SAMPLE, begin(SAMPLE))), ("b", None))
        for call, error in ((place_at, NoPart), (held_in, NoCell), (lying, NoQueue)):
            for name in ("z", "", "top", "go"):
                self.assert_raises(error, {"name": name}, call, SAMPLE, state, name)
        self.assert_raises(NoCell, {"name": "q"}, held_in, SAMPLE, state, "q")
        self.assert_raises(NoQueue, {"name": "x"}, lying, SAMPLE, state, "x")
        for call in (can_take, shut_steps, ready_for, place_at):
            self.assert_raises(NoPart, {"name": "x"}, call, SAMPLE, state, "x")

    def test_what_can_be_taken(self):
        nest = ("pick", ((SET_X,), (("when", LOW),), (("when", NEVER),), (("check", NEVER),), (PUT,), (GET,), (ELSE,)))
        system = with_parts((nest,))
        here = begin(system)
        self.assertEqual(can_take(system, here, "a"), (0, 1, 3, 4))
        self.assertEqual(shut_steps(system, here, "a"), (2, 5, 6))
        full = ((0,), (0, 0), ((), (1, 2)), -1)
        self.assertEqual(can_take(system, full, "a"), (0, 1, 3, 5))
        ended = ((1,), (0, 0), ((), ()), -1)
        self.assertEqual((can_take(system, ended, "a"), shut_steps(system, ended, "a")), ((), ()))

    def test_else(self):
        system = with_parts((("pick", ((("when", LOW),), (GET,), (ELSE, PASS))),))
        self.assertEqual(can_take(system, begin(system), "a"), (0,))
        self.assertEqual(shut_steps(system, begin(system), "a"), (1, 2))
        other = ((0,), (2, 0), ((), ()), -1)
        self.assertEqual(can_take(system, other, "a"), (2,))
        self.assertEqual(after(system, other, (0, 2)), ((1,), (2, 0), ((), ()), -1))
        lies = ((0,), (2, 0), ((), (1,)), -1)
        self.assertEqual(can_take(system, lies, "a"), (1,))

    def test_else_beside_a_hand_over(self):
        system = with_parts((("pick", ((GIVE,), (ELSE,))),), (PASS, TAKE))
        here = begin(system)
        self.assertEqual(can_take(system, here, "a"), (1,))
        self.assertEqual(ready(system, here), ((0, 1), (1, 0)))
        there = after(system, here, (1, 0))
        self.assertEqual(can_take(system, there, "a"), (0,))
        self.assertEqual(shut_steps(system, there, "a"), (1,))
        self.assertEqual(ready(system, there), ((0, 0, 1, 1),))
        alone = with_parts((("pick", ((GIVE,), (TAKE,), (ELSE,))),))
        self.assertEqual(ready(alone, begin(alone)), ((0, 2),))

    def test_queues_of_room_0_with_several_takers(self):
        system = with_parts((GIVE, GIVE), (("pick", ((TAKE,), (("get", "h", "x"),))),), (TAKE,))
        here = begin(system)
        self.assertEqual(can_take(system, here, "b"), (0, 1))
        self.assertEqual(ready(system, here), ((0, 0, 1, 0), (0, 0, 1, 1), (0, 0, 2, 0)))
        self.assertEqual(ready_for(system, here, "a"), ready(system, here))
        self.assertEqual(ready_for(system, here, "b"), ((0, 0, 1, 0), (0, 0, 1, 1)))
        self.assertEqual(ready_for(system, here, "c"), ((0, 0, 2, 0),))
        self.assertEqual(taking_part(system, (0, 0, 2, 0)), ("a", "c"))
        self.assertEqual(taking_part(system, (2, 0, 1, 0)), ("b", "c"))
        there = last_state(system, ((0, 0, 2, 0), (0, 1, 1, 1)))
        self.assertEqual(there, ((2, 1, 1), (0, 0), ((), ()), -1))
        self.assertEqual(ready(system, there), ((),))
        self.assertEqual(taking_part(system, ()), ())
        self.assertEqual(taking_part(system, (1, 0)), ("b",))

    def test_still_ended_shut(self):
        system = with_parts((("when", NEVER),), (PASS,))
        here = begin(system)
        self.assertIs(is_still(system, here), False)
        self.assertEqual((ended_parts(system, here), shut_parts(system, here)), ((), ("a",)))
        there = after(system, here, (1, 0))
        self.assertIs(is_still(system, there), True)
        self.assertEqual(ready(system, there), ((),))
        self.assertEqual((ended_parts(system, there), shut_parts(system, there)), (("b",), ("a",)))
        self.assertEqual(after(system, there, ()), there)
        none = with_parts((), ())
        self.assertEqual((ended_parts(none, begin(none)), shut_parts(none, begin(none))), (("a", "b"), ()))
        self.assertEqual((ready(none, begin(none)), ready_for(none, begin(none), "a")), (((),), ()))


class Going(Case):
    def test_numbers_are_taken_to_fit(self):
        cells, queues = (("c", 2, 0), ("d", 3, 0)), (("h", 0, 4), ("q", 1, 5))
        for value, wanted in (
            (("gap", number(0), number(1)), 2), (("gap", number(0), number(4)), 2), (number(3), 0),
            (("times", number(9), number(9)), 0), (number(2), 2), (("gap", number(1), number(4)), 0),
        ):
            system = with_parts((("let", "c", value),), cells=cells, queues=queues)
            self.assertEqual(held_in(system, after(system, begin(system), (0, 0)), "c"), wanted)
        system = with_parts((("put", "q", ("gap", number(0), number(2))), ("get", "q", "c")), cells=cells, queues=queues)
        there = after(system, begin(system), (0, 0))
        self.assertEqual(lying(system, there, "q"), (4,))
        self.assertEqual(held_in(system, after(system, there, (0, 1)), "c"), 1)
        system = with_parts((("put", "h", number(8)),), (("get", "h", "c"),), cells=cells, queues=queues)
        self.assertEqual(held_in(system, after(system, begin(system), (0, 0, 1, 0)), "c"), 0)
        system = with_parts((("put", "h", number(9)),), (("get", "h", "d"),), cells=cells, queues=queues)
        self.assertEqual(held_in(system, after(system, begin(system), (0, 0, 1, 0)), "d"), 0)

    def test_queues_keep_the_order(self):
        block = (("put", "q", ONE), ("put", "q", TWO), ("get", "q", "x"), ("get", "q", "y"))
        system = with_parts(block)
        told = [lying(system, state, "q") for state in states(system, ((0, 0), (0, 1), (0, 2), (0, 3)))]
        self.assertEqual(told, [(), (1,), (1, 2), (2,), ()])
        self.assertEqual(last_state(system, ((0, 0), (0, 1), (0, 2), (0, 3)))[1], (1, 2))

    def test_values_are_those_ahead(self):
        system = with_parts((("let", "x", ("sum", X, ONE)),), (("put", "h", X), ), (("get", "h", "x"),))
        self.assertEqual(held_in(system, last_state(system, ((0, 0), (1, 0, 2, 0))), "x"), 1)

    def test_holders(self):
        once = ("once", (PASS, PASS, PASS))
        system = with_parts((once, PASS), (PASS,))
        self.assertEqual([state[3] for state in states(system, ((0, 0), (0, 1), (0, 2)))], [-1, 0, 0, -1])
        there = after(system, begin(system), (0, 0))
        self.assertEqual(ready(system, there), ((0, 1),))
        self.assertEqual(ready_for(system, there, "b"), ())
        self.assertEqual(can_take(system, there, "b"), (0,))
        self.assert_raises(NotReady, {}, after, system, there, (1, 0))
        self.assertEqual(shut_parts(system, there), ())

    def test_a_holder_who_can_not_go_on(self):
        system = with_parts((("once", (PASS, GET, PASS)),), (PUT,))
        there = after(system, begin(system), (0, 0))
        self.assertEqual((there[3], ready(system, there)), (-1, ((1, 0),)))
        there = after(system, there, (1, 0))
        self.assertEqual((there[3], ready(system, there)), (-1, ((0, 1),)))
        self.assertEqual(after(system, there, (0, 1))[3], 0)
        first = last_state(system, ((1, 0), (0, 0)))
        self.assertEqual((first[3], ready(system, first)), (0, ((0, 1),)))

    def test_holders_at_hand_overs(self):
        giver, taker = ("once", (GIVE, PASS)), ("once", (TAKE, PASS))
        for blocks, holder in (
            (((giver,), (taker,)), 0), (((giver,), (TAKE,)), 0), (((GIVE,), (taker,)), 1), (((GIVE,), (TAKE,)), -1),
            (((("once", (GIVE, ("when", NEVER), PASS)),), (taker,)), -1),
        ):
            system = with_parts(*blocks)
            self.assertEqual(after(system, begin(system), (0, 0, 1, 0))[3], holder)
        system = with_parts((taker,), (giver,))
        self.assertEqual(after(system, begin(system), (1, 0, 0, 0))[3], 1)

    def test_a_holder_hands_over(self):
        system = with_parts((("once", (PASS, GIVE)),), (TAKE,), (TAKE,))
        there = after(system, begin(system), (0, 0))
        self.assertEqual((there[3], ready(system, there)), (0, ((0, 1, 1, 0), (0, 1, 2, 0))))
        system = with_parts((("once", (PASS, TAKE)),), (GIVE,), (PASS,))
        there = after(system, begin(system), (0, 0))
        self.assertEqual((there[3], ready(system, there)), (0, ((1, 0, 0, 1),)))

    def test_unready_turns(self):
        system = with_parts((PASS, GET), (PASS,))
        for turn in ((), (0, 1), (1, 1), (2, 0), (0, -1), (-2, 0), (0, 0, 1, 0), (9, 9)):
            self.assert_raises(NotReady, {}, after, system, begin(system), turn)
            self.assert_raises(NotReady, {}, breaks, system, begin(system), turn)
            for call in (states, last_state, broken):
                self.assert_raises(NotReady, {}, call, system, ((1, 0), turn))
            self.assert_raises(NotReady, {}, told_along, system, (), (turn,))
        self.assertEqual(states(system, ()), [begin(system)])
        self.assertEqual(last_state(system, ()), begin(system))

    def test_checks(self):
        block = (("check", LOW), ("let", "x", TWO), ("check", LOW), ("check", ("not", LOW)))
        system = with_parts(block, ())
        turns = ((0, 0), (0, 1), (0, 2), (0, 3), ())
        self.assertEqual(broken(system, turns), (2,))
        told = [breaks(system, state, turn) for state, turn in zip(states(system, turns), turns)]
        self.assertEqual(told, [False, False, True, False, False])
        giving = with_parts((GIVE,), (TAKE,))
        self.assertIs(breaks(giving, begin(giving), (0, 0, 1, 0)), False)
        self.assertEqual(broken(giving, ()), ())

    def test_told(self):
        heard = (("far", ("not", LOW)), ("go", LOW), ("low", LOW))[:1] + (("low", LOW), ("wet", ("full", "q")))
        system = with_parts((SET_X, ("let", "x", TWO), PUT, PUT))
        turns = ((0, 0), (0, 1), (0, 2), (0, 3))
        wanted = (("low",), ("low",), ("far",), ("far",), ("far", "wet"))
        self.assertEqual(told_along(system, heard, turns), wanted)
        self.assertEqual([told_at(system, heard, state) for state in states(system, turns)], list(wanted))
        self.assertEqual(told_along(system, (), turns), ((),) * 5)
        self.assertEqual(told_along(system, heard, ()), (("low",),))


class Orders(Case):
    def test_commute(self):
        system = with_parts((SET_X, PASS), (("let", "y", ONE),), (("let", "x", TWO),))
        here = begin(system)
        self.assertIs(do_commute(system, here, (0, 0), (1, 0)), True)
        self.assertIs(do_commute(system, here, (1, 0), (0, 0)), True)
        self.assertIs(do_commute(system, here, (0, 0), (2, 0)), False)
        self.assertIs(do_commute(system, here, (0, 0), (0, 0)), False)
        for one, other in (((0, 1), (1, 0)), ((1, 0), (0, 1)), ((), (1, 0)), ((0, 1), ())):
            self.assert_raises(NotReady, {}, do_commute, system, here, one, other)
        ring = with_parts((("again", ((PASS,),)),))
        self.assertIs(do_commute(ring, begin(ring), (0, 0), (0, 0)), True)
        rest = with_parts(())
        self.assertIs(do_commute(rest, begin(rest), (), ()), True)
        picked = with_parts((("pick", ((PASS,), (SET_X,))),))
        self.assertIs(do_commute(picked, begin(picked), (0, 0), (0, 1)), False)

    def test_swapped(self):
        system = with_parts((SET_X, PASS), (("let", "y", ONE),), (("let", "x", TWO),))
        turns = ((0, 0), (1, 0), (2, 0), (0, 1), ())
        self.assertEqual(swapped(system, turns, 0), ((1, 0), (0, 0), (2, 0), (0, 1), ()))
        self.assertEqual(swapped(system, turns, 1), ((0, 0), (2, 0), (1, 0), (0, 1), ()))
        self.assertEqual(swapped(system, turns, 2), ((0, 0), (1, 0), (0, 1), (2, 0), ()))
        self.assertIsNone(swapped(system, turns, 3))
        self.assertIsNone(swapped(system, ((0, 0), (2, 0)), 0))
        for at in (-1, 4, 5, 99):
            self.assert_raises(NoNumber, {"number": at}, swapped, system, turns, at)
        for at in (-1, 0, 1):
            self.assert_raises(NoNumber, {"number": at}, swapped, system, ((9, 9),), at)
        self.assert_raises(NotReady, {}, swapped, system, ((0, 0), (9, 9)), 0)
        self.assert_raises(NotReady, {}, swapped, system, ((0, 0), (1, 0), (9, 9)), 0)
        self.assert_raises(NoNumber, {"number": 0}, swapped, system, (), 0)
        still = with_parts(())
        self.assertEqual(swapped(still, ((), (), ()), 1), ((), (), ()))
        unlike = with_parts((("let", "x", ONE),), (("let", "y", X),))
        self.assertIsNone(swapped(unlike, ((0, 0), (1, 0)), 0))

    def test_led_by(self):
        system = with_parts((("pick", ((PASS,), (PASS,))), PASS), (GIVE,), (TAKE, PASS))
        self.assertEqual(led_by(system, "abc", 6), ((0, 0), (0, 2), (1, 0, 2, 0), (2, 1), (), ()))
        self.assertEqual(led_by(system, ("c", "b", "a"), 4), ((1, 0, 2, 0), (2, 1), (0, 0), (0, 2)))
        self.assertEqual(led_by(system, ("c", "a", "b"), 3), ((1, 0, 2, 0), (2, 1), (0, 0)))
        self.assertEqual(led_by(system, ("b", "a", "c"), 0), ())
        self.assertEqual(len(led_by(system, ("b", "a", "c"), 200)), 200)
        for row in (("a", "b"), ("a", "b", "c", "c"), (), ("a", "a", "b"), ("c", "b")):
            self.assert_raises(Unfit, {}, led_by, system, row, 3)
        for row in (("a", "x", "y"), ("x",), ("a", "b", "c", "x"), ("a", "a", "x")):
            self.assert_raises(NoPart, {"name": "x"}, led_by, system, row, 3)
        held = with_parts((PASS,), (("once", (PASS, PASS)),))
        self.assertEqual(led_by(held, ("b", "a"), 3), ((1, 0), (1, 1), (0, 0)))
        self.assertEqual(after(held, begin(held), (1, 0))[3], 1)


class AtRandom(Case):
    """All that is told at the states of systems made at random, and the guarantees."""

    def each_state(self, seed, many, deeds=4, most=25):
        maker = Maker(seed)
        for _ in range(many):
            system = maker.system(maker.random.randint(1, 3), deeds)
            met = [begin(system)]
            for state in met:
                yield system, state
                for turn in ready(system, state):
                    there = after(system, state, turn)
                    if there not in met and len(met) < most:
                        met.append(there)

    def test_like_the_plain_words(self):
        kinds = set()
        for system, state in self.each_state(21, 60):
            plain = Goings(system)
            turns = plain.ready(state)
            kinds.update([len(turn) for turn in turns] + ["held"] * (state[3] > -1))
            self.assertEqual(ready(system, state), turns)
            self.assertIs(is_state(system, state), True)
            for turn in turns:
                self.assertEqual(after(system, state, turn), plain.after(state, turn))
            for at, part in enumerate(part_names(system)):
                wanted = [step for step in range(len(plain.steps[at])) if plain.can(state, at, step)]
                self.assertEqual(list(can_take(system, state, part)), wanted)
                here = [step for step, row in enumerate(plain.steps[at]) if row[0] == state[0][at]]
                self.assertEqual(set(shut_steps(system, state, part)), set(here) - set(wanted))
                self.assertEqual(part in ended_parts(system, state), state[0][at] == end_of(system, part))
                ended = state[0][at] == end_of(system, part)
                self.assertEqual(part in shut_parts(system, state), not ended and not wanted)
                self.assertEqual(ready_for(system, state, part), tuple([turn for turn in turns if at in turn[::2]]))
            self.assertEqual(is_still(system, state), turns == ((),))
        self.assertEqual(kinds, {0, 2, 4, "held"})

    def test_some_turn_is_ready_and_holders_have_one(self):
        for system, state in self.each_state(22, 40):
            self.assertNotEqual(ready(system, state), ())
            for turn in ready(system, state):
                there = after(system, state, turn)
                if there[3] > -1:
                    self.assertIn(there[3], turn[::2])
                    own = turn[turn[::2].index(there[3]) * 2 + 1]
                    part = part_names(system)[there[3]]
                    self.assertIs(step_of(system, part, own)[3], True)
                    self.assertNotEqual(ready_for(system, there, part), ())

    def named(self, system, turn):
        """What the steps of a turn name, what they change, the parts that they ask for."""
        touched, changed, parts = set(), set(), set()
        for at in range(0, len(turn), 2):
            part = part_names(system)[turn[at]]
            deed = step_of(system, part, turn[at + 1])[1]
            changed |= set(step_lets(system, part, turn[at + 1]))
            touched |= set(step_reads(system, part, turn[at + 1])) | set(step_queues(system, part, turn[at + 1]))
            if deed[0] in ("put", "get"):
                changed.add(deed[1])
            if deed[0] in ("when", "check"):
                parts |= {pair[0] for pair in asks_labels(system, part)}
        return touched | changed, changed, parts

    def test_turns_that_do_not_touch_commute(self):
        met = 0
        for system, state in self.each_state(23, 60):
            if state[3] > -1:
                continue
            plain = [turn for turn in ready(system, state) if turn and not any([
                step_of(system, part_names(system)[turn[at]], turn[at + 1])[3]
                or step_of(system, part_names(system)[turn[at]], turn[at + 1])[1] == ELSE
                for at in range(0, len(turn), 2)
            ])]
            for one in plain:
                for other in plain:
                    if not set(one[::2]) & set(other[::2]) and self.are_apart(system, one, other):
                        met += 1
                        self.assertIs(do_commute(system, state, one, other), True)
        self.assertGreater(met, 50)

    def are_apart(self, system, one, other):
        rows = [self.named(system, turn) + (set(taking_part(system, turn)),) for turn in (one, other)]
        return all([
            not mine[1] & theirs[0] and not mine[3] & theirs[2]
            for mine, theirs in (rows, rows[::-1])
        ])

    def test_swapped_rows_lead_to_the_same(self):
        maker = Maker(24)
        met = 0
        for _ in range(40):
            system = maker.system(3, 4)
            row = list(part_names(system))
            maker.random.shuffle(row)
            turns = led_by(system, row, 6)
            self.assertIs(is_turns(system, turns), True)
            for at in range(5):
                other = swapped(system, turns, at)
                here = states(system, turns)[at]
                if turns[at] in ready(system, here) and turns[at + 1] in ready(system, here):
                    wanted = do_commute(system, here, turns[at], turns[at + 1])
                    self.assertEqual(other is not None, wanted)
                if other is not None:
                    met += 1
                    self.assertEqual(last_state(system, other), last_state(system, turns))
        self.assertGreater(met, 20)


if __name__ == "__main__":
    unittest.main()
