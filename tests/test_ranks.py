"""PAIRS of a STATE and a standing, FULL CIRCLES, RANKS."""

import unittest

from helper import JUNK, Case, Maker, changed_things, free_clock, listed, ring
from plainmachines import PlainPairs
from runclaims.errors import Unfit
from runclaims.makers import machine_for, one_set
from runclaims.ranks import (
    come_pairs, fewest_pairs, full_circle, is_full_circle, is_ranks, led_from, ranks,
)
from runclaims.states import begin

ON = (("on", ("same", ("cell", "n"), ("number", 1))),)
FLIP = ((("n", 1, 0),), (), (("flip", (("again", ((("let", "n", ("gap", ("number", 1), ("cell", "n"))),),)),)),))
FREE = ((("n", 1, 0),), (), (("free", (("again", ((("let", "n", ("number", 0)),), (("let", "n", ("number", 1)),))),)),))
NEVER = (1, (0,), ((0, (), ("on",), 0),), ((0,),))
STAY = (2, (0,), ((0, (), (), 0), (0, ("on",), (), 1), (1, (), (), 1)), ((1,),))
FIRST = ((0,), (0,), (), -1)
OTHER = ((0,), (1,), (), -1)
NOTHING = ((0, (), (), ((),)), (1, (0,), (), ((0,),)), (2, (), ((0, (), (), 1),), ((0,),)))
TWO_SETS = (2, (0,), ((0, (), (), 1), (1, (), ("on",), 0)), ((0,), (1,)))


def samples(seed, many, sets=None):
    """Triples of a system, HEARD words and a machine."""
    maker = Maker(seed)
    found = [(system, ON, machine) for system in (FLIP, FREE) for machine in (NEVER, STAY) + NOTHING]
    while len(found) < many:
        system = maker.small(25, parts=maker.random.randint(1, 2))
        machine = maker.machine("pq", 3, 8, 2)
        if sets is not None:
            machine = machine[:3] + ((machine[3] + ((0,), ()))[:sets],)
        found.append((system, maker.heard(system, "pq"), machine))
    return found


def plain_circle(pairs, thing):
    """Whether thing, built of PAIRS, is a FULL CIRCLE."""
    row = thing[0] + thing[1]
    if thing[1] == () or row[0] not in pairs.starts:
        return False
    ahead = row[1:] + thing[1][:1]
    if not all([goal in pairs.leads(pair) for pair, goal in zip(row, ahead)]):
        return False
    return all([any([pair[1] in own for pair in thing[1]]) for own in pairs.machine[3]])


def plain_ranks(pairs, thing):
    """Whether thing, built of triples, are RANKS."""
    if list(thing) != sorted(set(thing)) or sorted([row[:2] for row in thing]) != sorted(pairs.nodes):
        return False
    told = {row[:2]: row[2] for row in thing}
    for pair in pairs.nodes:
        for goal in pairs.leads(pair):
            if told[pair] < told[goal] or told[pair] == told[goal] and pair[1] in pairs.machine[3][0]:
                return False
    return min(told.values(), default=0) >= 0


class Pairs(Case):
    def test_pairs_that_come_and_what_they_lead_to(self):
        for system, heard, machine in samples(131, 60):
            pairs = PlainPairs(system, heard, machine)
            self.assertEqual(come_pairs(system, heard, machine), sorted(pairs.nodes))
            for state, standing in pairs.nodes:
                wanted = pairs.leads((state, standing))
                self.assertEqual(led_from(system, heard, machine, state, standing), wanted)

    def test_pairs_that_do_not_come(self):
        self.assertEqual(led_from(FLIP, ON, STAY, OTHER, 1), [(FIRST, 1)])
        self.assertEqual(led_from(FLIP, ON, NEVER, OTHER, 0), [])
        held = ((("n", 1, 0),), (), (("a", (("once", (("pass",), ("when", ("same", ("cell", "n"), ("number", 1))))),)),))
        self.assertEqual(led_from(held, ON, NEVER, ((1,), (0,), (), 0), 0), [])
        self.assertEqual(led_from(held, ON, NEVER, ((1,), (0,), (), -1), 0), [(((1,), (0,), (), -1), 0)])

    def test_none(self):
        for machine in NOTHING[:1] + NOTHING[2:]:
            self.assertEqual(come_pairs(FLIP, ON, machine), [])
            self.assertEqual(ranks(FLIP, ON, machine), ())
            self.assertIs(is_ranks(FLIP, ON, machine, ()), True)
            self.assertIsNone(fewest_pairs(FLIP, ON, machine))
        self.assertEqual(ranks(FLIP, ON, NOTHING[1]), ((FIRST, 0, 0),))


class FullCircles(Case):
    def test_circles(self):
        found = 0
        for system, heard, machine in samples(132, 120):
            pairs = PlainPairs(system, heard, machine)
            circle = full_circle(system, heard, machine)
            self.assertIs(circle is not None, pairs.has_circle())
            if circle is not None:
                found += 1
                self.assertTrue(plain_circle(pairs, circle))
                self.assertIs(is_full_circle(system, heard, machine, circle), True)
                self.assertIs(is_full_circle(system, heard, machine, listed(circle)), False)
                more = (circle[0] + circle[1], circle[1] * 2)
                self.assertIs(is_full_circle(system, heard, machine, more), True)
        self.assertGreater(found, 15)

    def test_what_is_near_one(self):
        maker, good = Maker(133), 0
        for system, heard, machine in samples(134, 40):
            pairs = PlainPairs(system, heard, machine)
            for _ in range(10 if pairs.nodes else 0):
                row = [maker.pick(*pairs.nodes)] if maker.random.random() < 0.3 else [pairs.starts[0]]
                for _ in range(maker.random.randint(0, 4)):
                    row.append(maker.pick(*(pairs.leads(row[-1]) or pairs.nodes)))
                cut = maker.random.randint(0, len(row))
                thing = (tuple(row[:cut]), tuple(row[cut:]))
                wanted = plain_circle(pairs, thing)
                good += wanted
                self.assertIs(is_full_circle(system, heard, machine, thing), wanted)
        self.assertGreater(good, 8)

    def test_what_is_none(self):
        pair = (FIRST, 0)
        self.assertIs(is_full_circle(FREE, ON, NEVER, ((), (pair,))), True)
        self.assertIs(is_full_circle(FREE, ON, NEVER, ((pair,) * 3, (pair,) * 2)), True)
        for thing in JUNK + (
            ((pair,), ()), ((), (pair,), ()), [(), (pair,)], ([], (pair,)), ((), [pair]), ((), ([FIRST, 0],)), ((), ((FIRST, True),)),
            ((), ((FIRST, False),)), ((), ((FIRST, 1),)), ((), ((FIRST, -1),)), ((), ((OTHER, 0),)), ((), ((FIRST, 0, 0),)),
            ((), ((list(FIRST), 0),)), ((), (((((0,), (0,), ()), 0)),)), ((), ((((0,), (False,), (), -1), 0),)), ((), ((None, 0),)),
            ((), ((FIRST, None),)), ((OTHER, 0), (pair,)), ((), ((((0,), (0,), (), 0), 0),)), (pair, pair),
        ):
            self.assertIs(is_full_circle(FREE, ON, NEVER, thing), False, thing)
        circle = ((), (pair, (OTHER, 1)))
        self.assertIs(is_full_circle(FLIP, ON, TWO_SETS, circle), False)
        two = TWO_SETS[:2] + (((0, (), (), 1), (1, (), (), 0)),) + TWO_SETS[3:]
        self.assertIs(is_full_circle(FLIP, ON, two, circle), True)
        self.assertIs(is_full_circle(FLIP, ON, two[:3] + (two[3] + ((),),), circle), False)
        self.assertIs(is_full_circle(FLIP, ON, two[:3] + ((),), circle), True)
        for thing in changed_things(circle):
            if thing is not None and type(thing) is tuple and len(thing) == 2:
                self.assertIn(is_full_circle(FLIP, ON, two, thing), (True, False))


class Ranks(Case):
    def test_least_ranks(self):
        some = 0
        for system, heard, machine in samples(135, 120, sets=1):
            pairs = PlainPairs(system, heard, machine)
            wanted = pairs.ranks()
            some += wanted is not None
            found = ranks(system, heard, machine)
            self.assertEqual(found, wanted)
            self.assertIs(found is None, pairs.has_circle())
            if found is not None:
                self.assertIs(is_ranks(system, heard, machine, found), True)
                self.assertIs(is_ranks(system, heard, machine, listed(found)), False)
                higher = tuple([(*row[:2], row[2] * 3 + 10 ** 30) for row in found])
                self.assertIs(is_ranks(system, heard, machine, higher), True)
                self.assertEqual(is_ranks(system, heard, machine, found[1:]), found == ())
        self.assertGreater(some, 20)

    def test_what_is_near_them(self):
        maker, good = Maker(136), 0
        for system, heard, machine in samples(137, 80, sets=1):
            pairs = PlainPairs(system, heard, machine)
            for _ in range(4):
                row = [(*pair, maker.random.randint(0, 2)) for pair in sorted(pairs.nodes)]
                wanted = plain_ranks(pairs, tuple(row))
                good += wanted
                self.assertIs(is_ranks(system, heard, machine, tuple(row)), wanted)
        self.assertGreater(good, 20)

    def test_what_are_none(self):
        good = ((FIRST, 0, 1), (OTHER, 0, 0))
        self.assertEqual(ranks(FLIP, ON, NEVER), good)
        for thing in changed_things(good):
            wanted = isinstance(thing, tuple) and all([
                isinstance(row, tuple) and len(row) == 3 and isinstance(row[2], int) and not isinstance(row[2], bool)
                for row in thing
            ]) and [row[:2] for row in thing] == [row[:2] for row in good] and thing[0][2] > thing[1][2] >= 0
            wanted = wanted and "True" not in repr(thing) and "False" not in repr(thing)
            self.assertIs(is_ranks(FLIP, ON, NEVER, thing), wanted, thing)
        for thing in JUNK[:-1]:
            self.assertIs(is_ranks(FLIP, ON, NEVER, thing), False)
        for thing in (good[::-1], good + good, good[:1], ((FIRST, 0, 1), (FIRST, 0, 2), (OTHER, 0, 0)), ((FIRST, False, 1), (OTHER, 0, 0))):
            self.assertIs(is_ranks(FLIP, ON, NEVER, thing), False)

    def test_fewest(self):
        for system, heard, machine in samples(138, 100, sets=1):
            self.assertEqual(fewest_pairs(system, heard, machine), PlainPairs(system, heard, machine).fewest())
        self.assertEqual(fewest_pairs(FREE, ON, STAY), 3)
        self.assertEqual(fewest_pairs(FLIP, ON, STAY), 4)
        self.assertIsNone(fewest_pairs(FLIP, ON, NEVER))

    def test_machines_with_other_than_one_set(self):
        for machine in (TWO_SETS, NEVER[:3] + ((),), (0, (), (), ())):
            for call in (ranks, fewest_pairs):
                self.assert_raises(Unfit, {}, call, FLIP, ON, machine)
                self.assert_raises(Unfit, {}, call, listed(FLIP), listed(ON), listed(machine))
            for thing in ((), None, 3, ((FIRST, 0, 1),)):
                self.assert_raises(Unfit, {}, is_ranks, FLIP, ON, machine, thing)


class LargeRanks(Case):
    def test_as_many_pairs_as_the_bounds_allow(self):
        heard = (("x", ("same", ("cell", "m"), ("number", 0))),)
        many = 16
        moves = tuple([(at, (), (), (at + 1) % many) for at in range(many)])
        machine = (many, (0,), tuple(sorted(moves + ((3, ("x",), (), 9), (5, (), ("x",), 5)))), (tuple(range(many)),))
        system = ring(7, (9, 6))
        self.assertEqual(len(come_pairs(system, heard, machine)), 490 * many)
        self.assertIsNone(ranks(system, heard, machine))
        circle = full_circle(system, heard, machine)
        self.assertIs(is_full_circle(system, heard, machine, circle), True)
        # Once round brings the joint state back, but no standing unless 16 moves on.
        round_only = machine[:2] + (moves,) + machine[3:]
        self.assertEqual(fewest_pairs(system, heard, round_only), 490 * 8)
        self.assertEqual(fewest_pairs(system, heard, machine), 490)
        unmarked = machine[:3] + (((),),)
        self.assertEqual({row[2] for row in ranks(system, heard, unmarked)}, {0})
        self.assertIs(is_ranks(system, heard, unmarked, ranks(system, heard, unmarked)), True)

    def test_many_turns(self):
        system = free_clock((9, 9, 4))
        heard = (("x", ("same", ("cell", "x"), ("number", 0))), ("y", ("same", ("cell", "y"), ("number", 0))))
        many = 16
        moves = [(at, (), (), (at + step) % many) for at in range(many) for step in (0, 1, 5)]
        machine = (many, (0,), tuple(sorted(moves)), ((7,),))
        self.assertEqual(len(come_pairs(system, heard, machine)), 8000)
        # One move by 1 leads to 1; from there those by 5, 1, 5, 5, 0 lead by 7 round to it again.
        self.assertEqual(fewest_pairs(system, heard, machine), 6)
        self.assertIsNone(ranks(system, heard, machine))
        lost = machine[:3] + (((),),)
        self.assertEqual(len(ranks(system, heard, lost)), 8000)

    def test_machines_of_formulas(self):
        system = free_clock((9, 9, 4))
        heard = (("x", ("same", ("cell", "x"), ("number", 0))), ("y", ("same", ("cell", "y"), ("number", 0))))
        x, y = ("word", "x"), ("word", "y")
        machine = one_set(machine_for(("and", ("always", ("ever", x)), ("always", ("ever", y)))))
        # The circle may be entered ahead of its mark: then there are fewer.
        self.assertEqual(fewest_pairs(system, heard, machine), 5)
        self.assertEqual(fewest_by_marks(system, heard, machine), 6)
        self.assertIs(is_full_circle(system, heard, machine, full_circle(system, heard, machine)), True)


def fewest_by_marks(system, heard, machine):
    """How many PAIRS a FULL CIRCLE has at the least whose round begins at a mark."""
    pairs = PlainPairs(system, heard, machine)
    far = {pair: 0 for pair in pairs.starts}
    row = list(far)
    for pair in row:
        for goal in pairs.leads(pair):
            if goal not in far:
                far[goal] = far[pair] + 1
                row.append(goal)
    best = None
    for pair in row:
        if pair[1] in machine[3][0] and (best is None or far[pair] + 1 < best):
            back, layer, many = {}, [pair], 0
            while layer and pair not in back and (best is None or far[pair] + many < best):
                many += 1
                layer = [goal for goal in {goal: 0 for one in layer for goal in pairs.leads(one)} if goal not in back]
                back.update({goal: many for goal in layer})
            if pair in back:
                best = min(best or 10 ** 9, far[pair] + back[pair])
    return best


if __name__ == "__main__":
    unittest.main()
