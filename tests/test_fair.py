"""KINDS, fair LAPS, FALLS."""

import itertools
import unittest

from goings import Goings
from helper import JUNK, Case, Maker, changed_things, free_clock, listed
from laps import FairPairs, lots_of, plain_fair, plain_lap, plain_told, some_laps, some_round, waiting
from plainmachines import PlainPairs
from runclaims.errors import NoPart, NoWord
from runclaims.fair import (
    can_be_left_out, fair_against, fair_on, falls, is_fair, is_fair_against, is_fair_on, is_falls,
    is_leaving_out, keeps_fairly, least_kinds, leaving_out, left_out, must_be_fair, ready_parts,
    waiting_parts, weak_is_enough,
)
from runclaims.formulas import formula_from, is_true, opposite
from runclaims.makers import machine_for
from runclaims.states import begin
from runclaims.verdicts import keeps, lap_told

WORDS = ("none", "weak", "strong")
STILL = ((), (), (("cy", ()),))
ALL_TAKE, NONE_TAKE = (1, (0,), ((0, (), (), 0),), ((0,),)), (1, (0,), ((0, (), (), 0),), ((),))
FREELY = (1, (0,), ((0, (), (), 0),), ())
X, ONE = ("cell", "x"), ("number", 1)
SYSTEM = (
    (("won", 1, 0), ("x", 1, 0)), (),
    (("ann", (("again", ((("let", "x", ("gap", ONE, X)),),)),)), ("bob", (("when", ("same", X, ONE)), ("let", "won", ONE)))),
)
WIN = (("win", ("same", ("cell", "won"), ONE)),)
HOPE = ("ever", ("word", "win"))
TURN = (0, 0)


def all_kinds(system):
    return list(itertools.product(WORDS, repeat=len(system[2])))


def samples(seed, many, most=9, parts=None):
    maker = Maker(seed)
    for _ in range(many):
        system = maker.small(most, parts=parts or maker.random.randint(1, 3))
        yield maker, system, maker.heard(system, "pq")


def names(system, numbers):
    return tuple([row[0] for at, row in enumerate(system[2]) if at in numbers])


def at_least(kinds, other):
    return all([WORDS.index(one) >= WORDS.index(less) for one, less in zip(kinds, other)])


class Fairness(Case):
    def test_who_is_ready(self):
        for _, system, _ in samples(161, 60, 20):
            goings = Goings(system)
            for state in goings.all_states():
                numbers = {part for turn in goings.ready(state) for part in turn[::2]}
                self.assertEqual(ready_parts(system, state), names(system, numbers))

    def test_fair_laps(self):
        seen = set()
        for maker, system, _ in samples(162, 80, 15):
            goings = Goings(system)
            for lap in some_laps(maker, goings, 3):
                states = plain_lap(goings, lap)[len(lap[0]):]
                taken = {part for turn in lap[1] for part in turn[::2]}
                self.assertEqual(left_out(system, lap), names(system, set(range(len(system[2]))) - taken))
                for kinds in all_kinds(system):
                    numbers = waiting(goings, states, lap[1], kinds)
                    self.assertEqual(waiting_parts(system, lap, kinds), names(system, numbers))
                    self.assertIs(is_fair(system, kinds, lap), numbers == [])
                    self.assertIs(is_fair(system, list(kinds), listed(lap)), False)
                    seen.add((len(numbers), kinds.count("none")))
        self.assertGreater(len(seen), 6)

    def test_what_is_no_fair_lap(self):
        for thing in JUNK + (((), ()), ((), (TURN,)), ((TURN,), (TURN,)), ((), ((), ())), [(), (TURN, TURN)], ((), [TURN, TURN])):
            for kinds in all_kinds(SYSTEM):
                self.assertIs(is_fair(SYSTEM, kinds, thing), False)
                self.assertIs(is_fair_on(SYSTEM, begin(SYSTEM), kinds, thing), False)
                self.assertIs(is_leaving_out(SYSTEM, kinds, (), thing), False)
                self.assertIs(is_fair_against(SYSTEM, WIN, HOPE, kinds, thing), False)
        self.assertIs(is_fair(SYSTEM, ("none", "weak"), ((), (TURN, TURN))), True)
        self.assertIs(is_fair(SYSTEM, ("none", "strong"), ((), (TURN, TURN))), False)
        self.assertIs(is_fair(STILL, ("strong",), ((), ((),))), True)

    def test_near_fair_laps(self):
        for maker, system, _ in samples(163, 12, 10):
            goings = Goings(system)
            lap = some_laps(maker, goings, 1)[0]
            kinds = maker.pick(*all_kinds(system))
            for thing in list(changed_things(lap))[:60]:
                self.assertIs(is_fair(system, kinds, thing), plain_fair(goings, kinds, thing))

    def test_what_is_kept_by_fair_runs(self):
        some = set()
        maker = Maker(164)
        for number in range(200):
            system = maker.looping(8, maker.pick(2, 2, 3)) if number % 2 else maker.small(7, parts=2)
            heard = maker.heard(system, "pq")
            word = maker.pick(("word", "p"), ("word", "q"), ("not", ("word", "p")))
            formula = maker.pick(
                maker.formula("pq", 3), ("ever", word), ("always", ("ever", word)), ("not", ("ever", ("always", word))),
            )
            goings = Goings(system)
            machine = machine_for(opposite(formula))
            pairs = FairPairs(PlainPairs(system, heard, machine))
            if max([len(lots) for lots in lots_of(pairs.pairs.nodes, pairs.leads)], default=0) > 2 ** 7:
                continue
            kept = {}
            for kinds in all_kinds(system):
                found = fair_against(system, heard, formula, kinds)
                kept[kinds] = found is None
                self.assertIs(found is not None, pairs.has_fair_round(kinds))
                self.assertIs(keeps_fairly(system, heard, formula, kinds), found is None)
                if found is not None:
                    self.assertTrue(plain_fair(goings, kinds, found))
                    self.assertFalse(is_true(formula, plain_told(goings, heard, found)))
                    self.assertIs(is_fair_against(system, heard, formula, kinds, found), True)
                papers = falls(system, heard, machine, kinds)
                self.assertIs(papers is None, found is not None)
                if papers is not None:
                    self.assertTrue(pairs.are_falls(kinds, papers))
                    self.assertIs(is_falls(system, heard, machine, kinds, papers), True)
                    self.assertIs(is_falls(system, heard, machine, kinds, listed(papers)), False)
            least = [
                kinds for kinds in sorted(kept) if kept[kinds]
                and not any([kept[other] and other != kinds and at_least(kinds, other) for other in kept])
            ]
            self.assertEqual(least_kinds(system, heard, formula), least)
            must = [part for part in range(len(system[2])) if not any([kinds[part] == "none" for kinds in least])]
            self.assertEqual(must_be_fair(system, heard, formula), names(system, must))
            self.assertEqual(kept[("none",) * len(system[2])], keeps(system, heard, formula))
            for kinds in kept:
                weaker = tuple(["weak" if word == "strong" else word for word in kinds])
                self.assertIs(weak_is_enough(system, heard, formula, kinds), kept[weaker])
                for other in kept:
                    self.assertTrue(kept[other] or not kept[kinds] or not at_least(other, kinds))
            some.add(tuple(least))
        self.assertGreater(len(some), 4)

    def test_larger_systems(self):
        counts = [0, 0]
        maker = Maker(165)
        for number in range(150):
            system = maker.looping(40, maker.pick(2, 3)) if number % 3 else maker.small(60, parts=2)
            heard, word = maker.heard(system, "pq"), ("word", maker.pick("p", "q"))
            formula = maker.pick(maker.formula("pq", 3), ("ever", word), ("always", ("ever", word)))
            goings, kinds = Goings(system), maker.pick(*all_kinds(system))
            found = fair_against(system, heard, formula, kinds)
            papers = falls(system, heard, machine_for(("not", formula)), kinds)
            counts[found is None] += 1
            self.assertIs(papers is None, found is not None)
            if found is not None:
                self.assertTrue(plain_fair(goings, kinds, found))
                self.assertFalse(is_true(formula, plain_told(goings, heard, found)))
            else:
                pairs = FairPairs(PlainPairs(system, heard, machine_for(("not", formula))))
                self.assertTrue(pairs.are_falls(kinds, papers))
                self.assertIs(is_falls(system, heard, machine_for(("not", formula)), kinds, papers), True)
            for lap in some_laps(maker, goings, 3):
                wanted = plain_fair(goings, kinds, lap) and not is_true(formula, plain_told(goings, heard, lap))
                self.assertIs(is_fair_against(system, heard, formula, kinds, lap), wanted)
                self.assertFalse(wanted and found is None)
        self.assertGreater(min(counts), 10)

    def test_who_can_be_left_out(self):
        for maker, system, _ in samples(166, 60, 8):
            goings = Goings(system)
            kinds = maker.pick(*all_kinds(system))
            for many in range(len(system[2]) + 1):
                for some in itertools.combinations(range(len(system[2])), many):
                    def leads(state):
                        return [
                            (turn, goings.after(state, turn)) for turn in goings.ready(state)
                            if not set(turn[::2]) & set(some)
                        ]

                    def good(lot, turns):
                        return waiting(goings, lot, turns, kinds) == []

                    wanted = some_round(goings, goings.all_states(), leads, good)
                    parts = names(system, some)
                    found = leaving_out(system, kinds, parts)
                    self.assertIs(found is not None, wanted)
                    if many == 1:
                        self.assertIs(parts[0] in can_be_left_out(system, kinds), wanted)
                    if found is not None:
                        self.assertTrue(plain_fair(goings, kinds, found))
                        self.assertFalse({part for turn in found[1] for part in turn[::2]} & set(some))
                        self.assertIs(is_leaving_out(system, kinds, parts, found), True)
            for lap in some_laps(maker, goings, 3):
                left = set(range(len(system[2]))) - {part for turn in lap[1] for part in turn[::2]}
                for name in names(system, range(9)):
                    wanted = plain_fair(goings, kinds, lap) and name in names(system, left)
                    self.assertIs(is_leaving_out(system, kinds, (name,), lap), wanted)

    def test_all_strong(self):
        for maker, system, heard in samples(167, 40, 25):
            kinds = ("strong",) * len(system[2])
            goings = Goings(system)
            lap = fair_against(system, heard, ("not", ("true",)), kinds)
            states = plain_lap(goings, lap)[len(lap[0]):]
            idle = [
                part for part in range(len(system[2]))
                if not any([part in turn[::2] for state in states for turn in goings.ready(state)])
            ]
            self.assertEqual(left_out(system, lap), names(system, idle))

    def test_fair_from_each_state(self):
        maker = Maker(168)
        for number in range(100):
            system = maker.looping(20, maker.pick(2, 3)) if number % 2 else maker.small(20, parts=2)
            goings = Goings(system)
            states = goings.all_states()
            for state in maker.random.sample(states, min(4, len(states))):
                for kinds in all_kinds(system)[::4]:
                    found = fair_on(system, state, kinds)
                    self.assertTrue(plain_fair(goings, kinds, found, state))
                    self.assertIs(is_fair_on(system, state, kinds, found), True)
                    for lap in some_laps(maker, goings, 2, state):
                        self.assertIs(is_fair_on(system, state, kinds, lap), plain_fair(goings, kinds, lap, state))


class Falls(Case):
    def test_what_falls_are(self):
        good = (((begin(STILL), 0, (0,)),), (((0,), ("mark", 0)),))
        self.assertIs(is_falls(STILL, (), NONE_TAKE, ("strong",), good), True)
        self.assertEqual(falls(STILL, (), NONE_TAKE, ("strong",)), good)
        for thing in JUNK + (
            good[:1], good + ((),), list(good), (list(good[0]), good[1]), (good[0], list(good[1])), (good[0], ()), ((), good[1]),
            (good[0], (((0,), ("mark", 1)),)), (good[0], (((0,), ("mark", True)),)), (good[0], (((0,), ("mark", -1)),)),
            (good[0], (((0,), ("mark", False)),)), (good[0], (((0,), ("less",)),)), (good[0], (((0,), ("part", "cy")),)),
            (good[0], (((0,), ("part", "bob")),)), (good[0], (((0,), ("part", [])),)), (good[0], (((0,), ["mark", 0]),)),
            (good[0], (((1,), ("mark", 0)),)), (good[0], good[1] * 2), (good[0] * 2, good[1]), (good[0], good[1] + (((1,), ("less",)),)),
            (((begin(STILL), 0, ()),), ()), (((begin(STILL), 0, (True,)),), (((True,), ("mark", 0)),)), (((begin(STILL), 0, (-1,)),), (((-1,), ("mark", 0)),)),
            (((begin(STILL), 0, (0, 0)),), (((0,), ("mark", 0)), ((0, 0), ("mark", 0)))), (((begin(STILL), 1, (0,)),), good[1]),
            (((begin(STILL), False, (0,)),), good[1]), ((([0], 0, (0,)),), good[1]), (((begin(STILL), 0, [0]),), good[1]), (good[0], (((0,), ("mark",)),)),
            (good[0], (((0,), ("less", 0)),)), (good[0], (((0,), ("",)),)), (good[0], (((0,), ()),)), (good[0], (((0,), None),)),
        ):
            self.assertIs(is_falls(STILL, (), NONE_TAKE, ("strong",), thing), False, thing)
        high = (((begin(STILL), 0, (10 ** 30,)),), (((10 ** 30,), ("mark", 0)),))
        self.assertIs(is_falls(STILL, (), NONE_TAKE, ("strong",), high), True)
        self.assertIsNone(falls(STILL, (), ALL_TAKE, ("strong",)))
        self.assertIs(is_falls(STILL, (), FREELY, ("none",), good), False)
        nothing = (0, (), (), ())
        self.assertEqual(falls(STILL, (), nothing, ("weak",)), ((), ()))
        self.assertIs(is_falls(STILL, (), nothing, ("weak",), ((), ())), True)
        self.assertIs(is_falls(STILL, (), NONE_TAKE, ("weak",), ((), ())), False)

    def test_rows_that_end_where_a_strong_part_is_ready(self):
        machine = machine_for(("not", HOPE))
        kinds = ("none", "strong")
        found = falls(SYSTEM, WIN, machine, kinds)
        self.assertGreater(max([len(row[2]) for row in found[0]]), 1)
        self.assertIn(("part", "bob"), [reason for _, reason in found[1]])
        pairs = FairPairs(PlainPairs(SYSTEM, WIN, machine))
        self.assertTrue(pairs.are_falls(kinds, found))
        for other in (("none", "weak"), ("none", "none"), ("strong", "weak"), ("strong", "none")):
            self.assertIs(is_falls(SYSTEM, WIN, machine, other, found), False)
        self.assertIs(is_falls(SYSTEM, WIN, machine, ("strong", "strong"), found), True)
        # What is near is judged as the words say, where its shape is right.
        for thing in changed_things(found):
            if self.has_shape(found, thing):
                self.assertIs(is_falls(SYSTEM, WIN, machine, kinds, thing), pairs.are_falls(kinds, thing), thing)
            else:
                self.assertIs(is_falls(SYSTEM, WIN, machine, kinds, thing), False, thing)

    def has_shape(self, found, thing):
        if type(thing) is not tuple or len(thing) != 2 or not all([type(half) is tuple for half in thing]):
            return False
        for row in thing[0]:
            if type(row) is not tuple or len(row) != 3 or repr(row[:2]) not in [repr(one[:2]) for one in found[0]]:
                return False
            if type(row[2]) is not tuple or not row[2] or not all([type(one) is int and one >= 0 for one in row[2]]):
                return False
        for row in thing[1]:
            if type(row) is not tuple or len(row) != 2 or type(row[0]) is not tuple or not row[0]:
                return False
            if not all([type(one) is int and one >= 0 for one in row[0]]):
                return False
            if row[1] not in (("less",), ("mark", 0), ("part", "ann"), ("part", "bob")) or "True" in repr(row):
                return False
        return True

    def test_numbers_must_fall(self):
        maker, seen = Maker(169), set()
        for number in range(60):
            system = maker.looping(12, 2)
            heard = maker.heard(system, "p")
            kinds = maker.pick(*all_kinds(system))
            machine = machine_for(("and", maker.formula("p", 2), ("ever", ("always", ("word", "p")))))
            found = falls(system, heard, machine, kinds)
            if found is None or not found[0]:
                continue
            pairs = FairPairs(PlainPairs(system, heard, machine))
            for _ in range(4):
                order = list(range(9))
                maker.random.shuffle(order)
                place = maker.random.randint(0, 1)

                def moved(row):
                    return tuple([order[one] if at == place and one < 9 else one for at, one in enumerate(row)])

                thing = (
                    tuple([(*row[:2], moved(row[2])) for row in found[0]]),
                    tuple(sorted([(moved(front), reason) for front, reason in found[1]])),
                )
                wanted = pairs.are_falls(kinds, thing)
                seen.add(wanted)
                self.assertIs(is_falls(system, heard, machine, kinds, thing), wanted)
        self.assertEqual(seen, {True, False})

    def test_a_round_without_a_strong_part_within_a_greater_one(self):
        # ann may go on without turning x: then bob, who waits for it, is never ready.
        turn = ("let", "x", ("gap", ONE, X))
        system = SYSTEM[:2] + ((("ann", (("again", ((turn,), (("pass",),))),)), SYSTEM[2][1]),)
        for kinds in all_kinds(system):
            lap = fair_against(system, WIN, HOPE, kinds)
            self.assertTrue(plain_fair(Goings(system), kinds, lap))
            self.assertIsNone(falls(system, WIN, machine_for(("not", HOPE)), kinds))
        self.assertEqual(least_kinds(system, WIN, HOPE), [])
        self.assertEqual(must_be_fair(system, WIN, HOPE), ("ann", "bob"))
        self.assertEqual(can_be_left_out(system, ("strong", "strong")), ("bob",))

    def test_hand_overs(self):
        # bob only takes; cy goes round beside: who gives takes part as much as who takes.
        give, take = ("again", ((("put", "h", ONE),),)), ("again", ((("get", "h", "x"),),))
        system = (
            (("x", 1, 0),), (("h", 0, 1),),
            (("ann", (give,)), ("bob", (take,)), ("cy", (("again", ((("pass",),),)),))),
        )
        self.assertEqual(ready_parts(system, begin(system)), ("ann", "bob", "cy"))
        self.assertEqual(left_out(system, ((), ((0, 0, 1, 0),))), ("cy",))
        self.assertEqual(left_out(system, ((), ((2, 0),))), ("ann", "bob"))
        hope = ("ever", ("word", "on"))
        heard = (("on", ("same", X, ONE)),)
        self.assertEqual(
            least_kinds(system, heard, hope), [("none", "weak", "none"), ("weak", "none", "none")],
        )
        self.assertEqual(must_be_fair(system, heard, hope), ())
        for kinds in all_kinds(system):
            self.assertTrue(plain_fair(Goings(system), kinds, fair_on(system, begin(system), kinds)))
            found = falls(system, heard, machine_for(("not", hope)), kinds)
            self.assertIs(found is not None, kinds[:2] != ("none", "none"))
        self.assertEqual(can_be_left_out(system, ("strong", "none", "none")), ("cy",))

    def test_a_part_that_takes_part_is_no_reason(self):
        system = ((("x", 1, 0),), (), (("ann", (("again", ((("pass",),),)),)), ("bob", (("again", ((("pass",),),)),))))
        here = begin(system)
        for kinds in all_kinds(system):
            for name in ("ann", "bob"):
                for row in ((0,), (0, 0)):
                    thing = (((here, 0, row),), tuple([(row[:many + 1], ("part", name)) for many in range(len(row))]))
                    pairs = FairPairs(PlainPairs(system, (), FREELY))
                    self.assertFalse(pairs.are_falls(kinds, thing))
                    self.assertIs(is_falls(system, (), FREELY, kinds, thing), False)

    def test_reasons_that_do_not_hold(self):
        here = begin(STILL)
        for marks, number, wanted in (
            (((), (0,)), 0, True), (((), (0,)), 1, False), (((0,), ()), 0, False), (((0,), ()), 1, True), (((0,), (0,)), 1, False),
        ):
            machine, thing = FREELY[:3] + (marks,), (((here, 0, (5,)),), (((5,), ("mark", number)),))
            self.assertIs(is_falls(STILL, (), machine, ("none",), thing), wanted)
        # bob waits for ever, and is ready nowhere.
        system = SYSTEM[:2] + ((("ann", (("again", ((("pass",),),)),)), ("bob", (("when", ("less", ONE, ONE)),))),)
        thing = (((begin(system), 0, (0,)),), (((0,), ("part", "bob")),))
        for kinds in all_kinds(system):
            self.assertIs(is_falls(system, (), FREELY, kinds, thing), False)

    def test_weak_parts(self):
        # ann goes round for ever; bob is always ready: weak is enough.
        system = ((("x", 1, 0),), (), (("ann", (("again", ((("pass",),),)),)), ("bob", (("let", "x", ONE),))))
        heard = (("on", ("same", X, ONE)),)
        formula = ("ever", ("word", "on"))
        machine = machine_for(("not", formula))
        self.assertEqual(least_kinds(system, heard, formula), [("none", "weak")])
        found = falls(system, heard, machine, ("none", "weak"))
        self.assertIn(("part", "bob"), [reason for _, reason in found[1]])
        pairs = FairPairs(PlainPairs(system, heard, machine))
        for kinds in all_kinds(system):
            self.assertIs(is_falls(system, heard, machine, kinds, found), pairs.are_falls(kinds, found), kinds)


class Errors(Case):
    def test_words_that_are_not_heard(self):
        kinds = ("none", "none")
        wrong = ("or", ("word", "win"), ("until", ("word", "lost"), ("word", "gone")))
        for call in (keeps_fairly, fair_against, weak_is_enough):
            self.assert_raises(NoWord, {"name": "lost"}, call, SYSTEM, WIN, wrong, kinds)
            self.assert_raises(NoWord, {"name": "lost"}, call, system=listed(SYSTEM), heard=listed(WIN), formula=listed(wrong), kinds=["weak", "none"])
        for call in (least_kinds, must_be_fair):
            self.assert_raises(NoWord, {"name": "lost"}, call, SYSTEM, WIN, wrong)
        for thing in (None, [], ((), (TURN, TURN))):
            self.assert_raises(NoWord, {"name": "lost"}, is_fair_against, SYSTEM, WIN, wrong, kinds, thing)

    def test_parts_that_are_none(self):
        kinds = ("none", "none")
        for some, name in ((("x",), "x"), (("ann", "cy", "zoe"), "cy"), (("",), ""), (("ann", "b", "bob"), "b")):
            self.assert_raises(NoPart, {"name": name}, leaving_out, SYSTEM, kinds, some)
            self.assert_raises(NoPart, {"name": name}, leaving_out, system=SYSTEM, kinds=kinds, some=list(some))
            for thing in (None, ((), (TURN, TURN))):
                self.assert_raises(NoPart, {"name": name}, is_leaving_out, SYSTEM, kinds, some, thing)


class LargeFair(Case):
    def test_as_large_as_the_bounds_allow(self):
        system = free_clock((9, 9, 4))
        heard = tuple([(name, ("same", ("cell", name), ("number", 0))) for name in "xyz"])
        formula = formula_from("always ever x and always ever y")
        self.assertEqual(least_kinds(system, heard, formula), [("weak", "weak", "none")])
        self.assertEqual(must_be_fair(system, heard, formula), ("a", "b"))
        kinds = ("weak", "strong", "none")
        machine = machine_for(("not", formula))
        papers = falls(system, heard, machine, kinds)
        self.assertIs(is_falls(system, heard, machine, kinds, papers), True)
        self.assertIsNone(falls(system, heard, machine, ("weak", "none", "strong")))
        lap = fair_against(system, heard, formula, ("weak", "none", "strong"))
        self.assertIs(is_fair_against(system, heard, formula, ("weak", "none", "strong"), lap), True)
        self.assertEqual(can_be_left_out(system, ("weak", "none", "strong")), ("b",))
        wide = tuple([(at, (), (), (at * 3 + step) % 16) for at in range(16) for step in range(3)])
        many = (16, (0,), tuple(sorted(wide)), (tuple(range(8)), ()))
        papers = falls(system, heard, many, kinds)
        self.assertEqual(len(papers[0]), 8000)
        self.assertIs(is_falls(system, heard, many, kinds, papers), True)
        self.assertEqual(lap_told(system, heard, fair_on(system, begin(system), kinds))[0], ())


if __name__ == "__main__":
    unittest.main()
