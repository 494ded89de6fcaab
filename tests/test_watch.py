"""The class Watch, runs changed, rounds, runs along which just these sets are told."""

import unittest

from goings import Goings
from helper import JUNK, OTHER, SAMPLE, Case, Maker, changed_things, free_clock, listed, ring, with_parts
from runclaims.errors import NoNumber, NoPart, NothingDone, NotReady
from runclaims.states import begin, is_turns
from runclaims.tables import path_of, steps_at
from runclaims.verdicts import is_lap
from runclaims.watch import Watch, changed, is_replayed, replayed, shortest_round

PASS = ("pass",)
CLOCK = ring(2, (2,))
TICK = ((0, 0), (0, 1))
STILL = with_parts((), ())


def random_turns(maker, goings, many):
    state, turns = goings.begin(), []
    for _ in range(many):
        turns.append(maker.pick(*goings.ready(state)))
        state = goings.after(state, turns[-1])
    return tuple(turns)


def states_of(goings, turns):
    found = [goings.begin()]
    for turn in turns:
        found.append(goings.after(found[-1], turn))
    return found


def told(goings, heard, state):
    return tuple([word for word, test in heard if goings.test(state, test)])


class Watches(Case):
    def assert_is(self, watch, system, goings, heard, taken, ahead):
        """That a Watch tells all that it must."""
        states = states_of(goings, taken)
        self.assertEqual((watch.system, watch.taken, watch.ahead, watch.here), (system, tuple(taken), tuple(ahead), states[-1]))
        self.assertEqual(len(watch), len(taken))
        self.assertEqual(watch.ready(), goings.ready(states[-1]))
        self.assertEqual(watch.states(), states)
        self.assertIs(type(watch.states()), list)
        self.assertEqual(watch.told(heard), tuple([told(goings, heard, state) for state in states]))
        earlier = [at for at, state in enumerate(states[:-1]) if state == states[-1]]
        self.assertEqual(watch.met(), earlier[0] if earlier else None)
        lap = watch.lap()
        self.assertEqual(lap, (tuple(taken[:earlier[0]]), tuple(taken[earlier[0]:])) if earlier else None)
        self.assertTrue(lap is None or is_lap(system, lap))
        for part, (name, _) in enumerate(system[2]):
            numbers = steps_at(system, name, states[-1][0][part])
            self.assertEqual(watch.standing(name), tuple(sorted([path_of(system, name, number) for number in numbers])))

    def test_there_and_back(self):
        maker = Maker(231)
        for _ in range(60):
            system = maker.small(20, 2, parts=maker.random.randint(1, 3))
            heard, goings = maker.heard(system, "pq"), Goings(system)
            watch, taken, ahead = Watch(system), [], []
            for _ in range(15):
                deed = maker.pick("take", "take", "go", "back", "back", "again", "to", "bad", "twin")
                ready = goings.ready(states_of(goings, taken)[-1])
                if deed == "take":
                    turn = maker.pick(*ready)
                    self.assertIsNone(watch.take(turn))
                    taken, ahead = taken + [turn], ahead[1:] if ahead[:1] == [turn] else []
                elif deed == "go":
                    turns = list(random_turns(maker, goings, len(taken) + maker.random.randint(0, 3)))[len(taken):]
                    if is_turns(system, tuple(taken + turns)):
                        self.assertIsNone(watch.go(tuple(turns)))
                        for turn in turns:
                            taken, ahead = taken + [turn], ahead[1:] if ahead[:1] == [turn] else []
                    else:
                        self.assert_raises(NotReady, {}, watch.go, turns)
                elif deed == "back" and taken:
                    self.assertIsNone(watch.back())
                    taken, ahead = taken[:-1], taken[-1:] + ahead
                elif deed == "again" and ahead:
                    self.assertIsNone(watch.again())
                    taken, ahead = taken + ahead[:1], ahead[1:]
                elif deed in ("back", "again"):
                    self.assert_raises(NothingDone, {}, watch.back if deed == "back" else watch.again)
                elif deed == "to":
                    row = taken + ahead
                    number = maker.random.randint(0, len(row))
                    self.assertIsNone(watch.to(number))
                    taken, ahead = row[:number], row[number:]
                elif deed == "bad":
                    self.assert_raises(NotReady, {}, watch.take, (9, 9))
                    self.assert_raises(NotReady, {}, watch.go, [ready[0], (0, -1)])
                    for number in (-1, len(taken) + len(ahead) + 1, 10 ** 30):
                        self.assert_raises(NoNumber, {"number": number}, watch.to, number)
                else:
                    watch = watch.twin()
                self.assert_is(watch, system, goings, heard, taken, ahead)

    def test_at_the_beginning(self):
        for system in (SAMPLE, OTHER, CLOCK, STILL):
            watch = Watch(listed(system))
            self.assertEqual((watch.system, watch.taken, watch.here, watch.ahead, len(watch)), (system, (), begin(system), (), 0))
            self.assertIs(watch.met(), None)
            self.assertIs(watch.lap(), None)
            self.assert_raises(NothingDone, {}, watch.back)
            self.assert_raises(NothingDone, {}, watch.again)
            self.assertIsNone(watch.to(0))
            self.assert_raises(NoNumber, {"number": 1}, watch.to, number=1)

    def test_turns_ahead(self):
        watch = Watch(CLOCK)
        watch.go(turns=[[0, 0], [0, 1], [0, 0]])
        watch.to(0)
        self.assertEqual(watch.ahead, TICK + TICK[:1])
        watch.take(turn=[0, 0])
        self.assertEqual((watch.taken, watch.ahead), (TICK[:1], TICK[1:] + TICK[:1]))
        self.assert_raises(NotReady, {}, watch.go, (TICK[1], TICK[1]))
        self.assertEqual((watch.taken, watch.ahead), (TICK[:1], TICK[1:] + TICK[:1]))
        watch.go(())
        self.assertEqual(watch.ahead, TICK[1:] + TICK[:1])
        free = Watch(((("n", 1, 0),), (), (("a", (("again", ((PASS,), (PASS,))),)),)))
        free.go(((0, 0), (0, 1), (0, 0)))
        free.to(1)
        free.take((0, 0))
        self.assertEqual((free.taken, free.ahead), (((0, 0), (0, 0)), ()))
        free.to(0)
        free.go(((0, 0), (0, 1)))
        self.assertEqual((free.taken, free.ahead), (((0, 0), (0, 1)), ()))
        free.to(0)
        free.go(((0, 0), (0, 1)))
        self.assertEqual(free.ahead, ())
        free.to(1)
        free.go(((0, 1), (0, 0)))
        self.assertEqual((free.taken, free.ahead), (((0, 0), (0, 1), (0, 0)), ()))

    def test_what_rests_at_once(self):
        watch = Watch(STILL)
        self.assertEqual(watch.ready(), ((),))
        watch.take([])
        self.assertEqual((watch.taken, watch.met(), watch.lap()), (((),), 0, ((), ((),))))
        self.assertEqual(watch.standing("a"), ())

    def test_equal_and_twins(self):
        watch = Watch(CLOCK)
        watch.go(TICK + TICK)
        twin = watch.twin()
        self.assertTrue(watch == twin)
        self.assertFalse(watch != twin)
        self.assertIsNot(watch, twin)
        twin.back()
        self.assertTrue(watch != twin)
        self.assertEqual((len(watch), watch.ahead), (4, ()))
        other = Watch(CLOCK)
        other.go(TICK + TICK[:1])
        self.assertFalse(other == twin)
        other.take(TICK[1])
        other.back()
        self.assertTrue(other == twin)
        twin.again()
        self.assertTrue(watch == twin)
        watch.take(TICK[0])
        self.assertEqual(len(twin), 4)
        self.assertFalse(Watch(CLOCK) == Watch(ring(2, (3,))))
        self.assertTrue(Watch(CLOCK) == Watch(listed(CLOCK)))
        for thing in (None, 0, CLOCK, "x", [], True):
            self.assertFalse(Watch(CLOCK) == thing)
            self.assertTrue(Watch(CLOCK) != thing)

    def test_what_is_handed_out_is_the_callers(self):
        given = listed(CLOCK)
        watch = Watch(given)
        given[2].clear()
        self.assertEqual(watch.system, CLOCK)
        states = watch.states()
        states.clear()
        self.assertEqual(len(watch.states()), 1)

    def test_no_setters_and_no_iteration(self):
        watch = Watch(CLOCK)
        for name in ("system", "taken", "here", "ahead"):
            with self.assertRaises(AttributeError):
                setattr(watch, name, ())
        for call in (iter, list, tuple, sorted):
            with self.assertRaises(TypeError):
                call(watch)
        self.assert_raises(NoPart, {"name": "z"}, watch.standing, "z")
        self.assert_raises(NoPart, {"name": ""}, watch.standing, part="")

    def test_deeds_that_are_not_ready_are_told_too(self):
        watch = Watch(SAMPLE)
        self.assertEqual(watch.standing("b"), ((0, 0, 0), (0, 1, 0)))
        self.assertEqual(watch.standing("a"), ((0,),))
        watch.go(((0, 0),))
        self.assertEqual(watch.standing("a"), ((2, 0, 0), (2, 1, 0)))

    def test_as_large_as_the_bounds_allow(self):
        watch = Watch(free_clock((9, 9, 4)))
        watch.go(((0, 0), (1, 0), (2, 0)) * 20)
        self.assertEqual((len(watch), watch.met()), (60, 0))
        watch.to(5)
        self.assertEqual(len(watch.twin().ahead), 55)


def plain_changed(goings, turns, number, turn):
    taken, left = list(turns[:number]) + [turn], []
    state = goings.after(states_of(goings, turns[:number])[-1], turn)
    rest, gone = list(enumerate(turns))[number:], False
    for at, one in rest:
        if not gone and set(one[::2]) == set(turn[::2]):
            gone = True
        elif one in goings.ready(state):
            taken.append(one)
            state = goings.after(state, one)
        else:
            left.append(at)
    return tuple(taken), tuple(left)


class Changed(Case):
    def test_runs_changed(self):
        maker, lefts, idle = Maker(232), set(), 0
        for _ in range(150):
            system = maker.small(30, 2, parts=maker.random.randint(1, 3))
            goings = Goings(system)
            turns = random_turns(maker, goings, maker.random.randint(0, 8))
            for number in {0, len(turns), maker.random.randint(0, len(turns))}:
                for turn in goings.ready(states_of(goings, turns)[number]):
                    wanted = plain_changed(goings, turns, number, turn)
                    self.assertEqual(changed(system, turns, number, turn), wanted)
                    self.assertTrue(is_turns(system, wanted[0]))
                    lefts.add(len(wanted[1]))
                    idle += turn == ()
            for number in (-1, len(turns) + 1, 10 ** 30):
                self.assert_raises(NoNumber, {"number": number}, changed, system, turns, number, (9, 9))
                far = -1 if number == -1 else number + 2
                self.assert_raises(NoNumber, {"number": far}, changed, system, turns + ((9, 9),) * 2, far, (9, 9))
            self.assert_raises(NotReady, {}, changed, system, turns, 0, (9, 9))
            self.assert_raises(NotReady, {}, changed, system, listed(turns) + [[0, -1]], 0, listed(goings.ready(goings.begin())[0]))
        self.assertGreater(len(lefts), 3)
        self.assertGreater(idle, 5)

    def test_a_part_that_never_takes_part_again(self):
        system = with_parts((PASS, PASS), (PASS, PASS))
        self.assertEqual(changed(system, ((0, 0), (0, 1)), 1, (1, 0)), (((0, 0), (1, 0), (0, 1)), ()))
        self.assertEqual(changed(system, ((0, 0), (1, 0), (0, 1)), 0, (1, 0)), (((1, 0), (0, 0), (0, 1)), ()))
        self.assertEqual(changed(system, ((0, 0), (0, 1), (1, 0), (1, 1), ()), 1, (1, 0)), (((0, 0), (1, 0), (0, 1), (1, 1), ()), ()))
        self.assertEqual(changed(STILL, ((), (), ()), 1, ()), (((), (), ()), ()))
        self.assertEqual(changed(STILL, (), 0, ()), (((),), ()))
        gate = with_parts((("let", "x", ("number", 1)),), (("when", ("same", ("cell", "x"), ("number", 0))),))
        self.assertEqual(changed(gate, ((1, 0), (0, 0)), 0, (0, 0)), (((0, 0),), (0,)))
        # A hand-over is one of just the same parts, whoever gives.
        swap = with_parts((("again", ((("put", "h", ("number", 1)),), (("get", "h", "x"),))),), (("again", ((("get", "h", "x"),), (("put", "h", ("number", 2)),))),))
        self.assertEqual(changed(swap, ((0, 0, 1, 0), (0, 0, 1, 0)), 0, (1, 1, 0, 1)), (((1, 1, 0, 1), (0, 0, 1, 0)), ()))


class Rounds(Case):
    def plain_round(self, goings, start):
        """The least of the shortest TURNS from a STATE to itself."""
        rows = {start: ()}
        met = set()
        for _ in range(200):
            ahead = {}
            for state, row in rows.items():
                for turn in goings.ready(state):
                    goal = goings.after(state, turn)
                    if goal not in ahead or row + (turn,) < ahead[goal]:
                        ahead[goal] = row + (turn,)
            if start in ahead:
                return ahead[start]
            rows = {state: row for state, row in ahead.items() if state not in met}
            met |= set(rows)
        return None

    def test_shortest_rounds(self):
        maker, sizes = Maker(233), set()
        for number in range(150):
            system = maker.looping(15, 2) if number % 2 else maker.small(25, 2, parts=2)
            goings = Goings(system)
            turns = random_turns(maker, goings, maker.random.randint(0, 5))
            wanted = self.plain_round(goings, states_of(goings, turns)[-1])
            self.assertEqual(shortest_round(system, turns), wanted)
            self.assertEqual(shortest_round(system=listed(system), turns=listed(turns)), wanted)
            sizes.add(wanted and len(wanted))
        self.assertTrue({None, 1, 2} <= sizes, sizes)
        self.assertEqual(shortest_round(STILL, ()), ((),))
        self.assertIsNone(shortest_round(with_parts((PASS,)), ()))
        self.assertEqual(shortest_round(with_parts((PASS,)), ((0, 0),)), ((),))
        self.assertEqual(len(shortest_round(free_clock((9, 9, 4)), ())), 5)
        self.assert_raises(NotReady, {}, shortest_round, STILL, ((), (0, 0)))
        self.assert_raises(NotReady, {}, shortest_round, STILL, [[0, 0]])


class Replayed(Case):
    def plain_replayed(self, goings, heard, row):
        ways = [((), goings.begin())] if told(goings, heard, goings.begin()) == row[0] else []
        for sets in row[1:]:
            best = {}
            for turns, state in ways:
                for turn in goings.ready(state):
                    goal = goings.after(state, turn)
                    if told(goings, heard, goal) == sets and turns + (turn,) < best.get(goal, ((10 ** 9,),)):
                        best[goal] = turns + (turn,)
            ways = [(turns, state) for state, turns in best.items()]
        return min([turns for turns, _ in ways], default=None)

    def test_runs_that_tell_just_this(self):
        maker, counts = Maker(234), {True: 0, False: 0}
        for _ in range(150):
            system = maker.small(20, 2, parts=maker.random.randint(1, 3))
            heard, goings = maker.heard(system, "pq"), Goings(system)
            turns = random_turns(maker, goings, maker.random.randint(0, 6))
            row = tuple([told(goings, heard, state) for state in states_of(goings, turns)])
            if maker.random.random() < 0.4:
                row = row[:-1] + (maker.told("pq"),)
            wanted = self.plain_replayed(goings, heard, row)
            counts[wanted is None] += 1
            self.assertEqual(replayed(system, heard, row), wanted)
            self.assertEqual(replayed(listed(system), listed(heard), listed(row)), wanted)
            if wanted is not None:
                self.assertIs(is_replayed(system, heard, row, wanted), True)
                self.assertIs(is_replayed(system, heard, listed(row), wanted), True)
                if wanted:
                    self.assertIs(is_replayed(system, heard, row, listed(wanted)), False)
            for thing in list(changed_things(turns))[:40] + [turns]:
                good = type(thing) is tuple and is_turns(system, thing)
                good = good and tuple([told(goings, heard, state) for state in states_of(goings, thing)]) == row
                self.assertIs(is_replayed(system, heard, row, thing), good)
        self.assertGreater(min(counts.values()), 25)

    def test_far_things(self):
        for thing in JUNK + (((0, 0),), ((), ()), (((),),), [()], ((),) * 3, ((True,),)):
            self.assertIs(is_replayed(STILL, (), ((), ()), thing), thing == ((),) and type(thing) is tuple, thing)
        self.assertEqual(replayed(STILL, (), ((),)), ())
        self.assertEqual(replayed(STILL, (), ((), (), ())), ((), ()))
        self.assertIsNone(replayed(STILL, (), (("p",),)))
        self.assertIsNone(replayed(STILL, (), ((), ("p", "zoo"))))

    def test_as_large_as_the_bounds_allow(self):
        system = free_clock((9, 9, 4))
        heard = (("w", ("same", ("cell", "z"), ("number", 4))),)
        row = ((),) * 30 + (("w",),) * 20 + ((),) * 10
        turns = replayed(system, heard, row)
        self.assertIs(is_replayed(system, heard, row, turns), True)
        self.assertEqual(turns[:4], ((0, 0),) * 4)


if __name__ == "__main__":
    unittest.main()
