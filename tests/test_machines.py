"""MACHINES: what they take, and papers for that."""

import unittest

from helper import JUNK, Case, Maker, changed_things, listed
from plainmachines import (
    can_be_made, can_ever_be_made, machine_leads, plain_fewest, plain_live, plain_numbers, plain_path,
    plain_takes,
)
from runclaims.errors import NoNumber
from runclaims.machines import (
    fewest_standings, is_machine, is_numbers_for, is_path_along, lean, live_standings, moved_to,
    numbers_for, path_along, some_loop, standings_behind, takes, takes_any, words_read,
)

OFTEN = (2, (0,), ((0, (), ("p",), 0), (0, ("p",), (), 1), (1, (), ("p",), 0), (1, ("p",), (), 1)), ((1,),))
NEVER = (2, (0,), ((0, (), (), 0), (0, ("p",), (), 1)), ((1,),))
P, N = ("p",), ()
EDGES = (
    (0, (), (), ()), (0, (), (), ((),)), (3, (), ((0, (), (), 0),), ((0,),)), (2, (0, 1), (), ()),
    (1, (0,), ((0, (), (), 0),), ()), (1, (0,), ((0, (), (), 0),), ((),)), (1, (0,), ((0, (), (), 0),), ((0,), (0,))),
    (1, (0,), ((0, P, P, 0),), ()), (2, (0,), ((0, (), (), 1), (1, P, P, 1)), ()),
    (2, (0,), ((0, (), (), 0), (0, P, P, 1), (1, (), (), 1)), ((1,),)),
    (2, (1,), ((0, (), (), 0), (1, (), P, 0)), ((0,), (0, 1))), OFTEN, NEVER,
    (3, (0,), ((0, P, (), 1), (1, (), P, 0), (1, P, (), 2), (2, (), (), 1)), ((0,), (2,))),
    (2, (0,), ((0, (), (), 1), (1, (), (), 0)), ((0,), (1,))),
)


def some_machines(seed, many, **sizes):
    maker = Maker(seed)
    return list(EDGES) + [maker.machine("pq", **sizes) for _ in range(many)]


def large(marks=4):
    """A MACHINE of 60 standings, 400 moves, 4 sets of marks, 4 words."""
    rows = set()
    for number in range(400):
        yes, no = ("abcd"[number % 4],), ("abcd"[number // 4 % 4],) if number % 3 else ()
        rows.add((number % 60, yes, no if no != yes else (), (number * 7 + number // 60) % 60))
    number = 0
    while len(rows) < 400:
        rows.add((number % 60, ("a", "b"), ("c",), (number + 1) % 60))
        number += 1
    return (60, (0, 30), tuple(sorted(rows)), tuple([tuple(range(at, 60, 9 + at)) for at in range(marks)]))


class Machines(Case):
    def test_what_machines_are(self):
        for thing in EDGES + (large(), (10 ** 30, (10 ** 29,), (), ((), (5,)))):
            self.assertIs(is_machine(thing), True)
            self.assertIs(is_machine(listed(thing)), False)
        for thing in JUNK + (
            (-1, (), (), ()), (True, (), (), ()), (None, (), (), ()), (1, (1,), (), ()), (1, (-1,), (), ()),
            (2, (1, 0), (), ()), (2, (0, 0), (), ()), (1, (True,), (), ()), (2, (), ((0, (), (), 2),), ()),
            (2, (), ((2, (), (), 0),), ()), (2, (), ((0, (), 0),), ()), (2, (), ((0, ("let", "go"), (), 1),), ()),
            (2, (), ((0, ("b", "a"), (), 1),), ()), (2, (), ((1, (), (), 0), (0, (), (), 0)), ()),
            (2, (), ((0, (), (), 0), (0, (), (), 0)), ()), (2, (), ((0, (), (), True),), ()), (2, (), (), (0,)),
            (2, (), (), ((1, 0),)), (2, (), (), ((0, 2),)), (2, (), (), None), (2, None, (), ()), (2, (), None, ()),
            (2, (), ((0, "", (), 0),), ()), (2, (), ((0, (), [], 0),), ()), (2, (), (), ((False,),)), (2, [], (), ()),
        ):
            self.assertIs(is_machine(thing), False, thing)

    def test_changed_machines(self):
        good = [thing for thing in changed_things(NEVER) if is_machine(thing)]
        for thing in ((10,) + NEVER[1:], (2, (), NEVER[2], NEVER[3]), NEVER[:3] + (((),),), NEVER[:3] + (((1,), (1,)),)):
            self.assertIn(thing, good)
        for many, starts, moves, marks in good:
            for row in (starts, moves) + marks:
                self.assertEqual(list(row), sorted(set(row)))
            used = starts + tuple([node for row in marks for node in row]) + tuple([row[0] for row in moves])
            self.assertTrue(all([0 <= node < many for node in used + tuple([row[3] for row in moves])]))

    def test_moves(self):
        for machine in some_machines(91, 40):
            for told in (N, P, ("q",), ("p", "q"), ("p", "q", "zz")):
                for standing in range(machine[0]):
                    wanted = {row[3] for row in machine[2] if row[0] == standing and can_be_made(row, told)}
                    self.assertEqual(moved_to(machine, standing, told), tuple(sorted(wanted)))
            words = {word for row in machine[2] for word in row[1] + row[2]}
            self.assertEqual(words_read(machine), tuple(sorted(words)))
            for standing in (-1, machine[0], 10 ** 30):
                self.assert_raises(NoNumber, {"number": standing}, moved_to, machine, standing, N)

    def test_standings_behind(self):
        self.assertEqual(standings_behind(OFTEN, ()), (0,))
        for machine in some_machines(92, 60):
            rows = (P, ("p", "q"), N, P)
            for many in range(5):
                wanted = set(machine[1])
                for told in rows[:many]:
                    wanted = {row[3] for row in machine[2] if row[0] in wanted and can_be_made(row, told)}
                self.assertEqual(standings_behind(machine, rows[:many]), tuple(sorted(wanted)))


class Taking(Case):
    def test_what_is_taken(self):
        maker = Maker(93)
        took = 0
        for machine in some_machines(94, 300):
            for loop in [maker.loop("pq", 4) for _ in range(3)]:
                wanted = plain_takes(machine, loop)
                took += wanted
                self.assertIs(takes(machine, loop), wanted)
                path = path_along(machine, loop)
                self.assertIs(path is not None, wanted)
                if path is not None:
                    self.assertTrue(plain_path(machine, loop, path))
                    self.assertIs(is_path_along(machine, loop, path), True)
        self.assertGreater(took, 60)

    def test_paths(self):
        maker = Maker(95)
        good = 0
        for machine in some_machines(96, 250, standings=3, sets=1):
            loop = maker.loop("pq", 3)
            row = [maker.random.randrange(max(machine[0], 1)) for _ in range(12)]
            first, many = maker.random.randint(0, 4), maker.random.randint(0, 4)
            thing = (tuple(row[:first]), tuple(row[first:first + many]))
            wanted = machine[0] > 0 and plain_path(machine, loop, thing)
            good += wanted
            self.assertIs(is_path_along(machine, loop, thing), wanted)
        self.assertGreater(good, 5)

    def test_paths_with_more_rounds_and_none(self):
        loop = ((N,), (P, N))
        for thing, wanted in (
            (((0,), (0, 1)), True), (((0, 0, 1), (0, 1)), True), (((0,), (0, 1) * 3), True), (((0, 0, 1) + (0, 1) * 4, (0, 1) * 2), True),
            (((0,), (0,)), False), (((0, 0), (1, 0)), False), (((), (0, 0, 1)), False), (((0,), ()), False), (((1,), (0, 1)), False),
            (((0,), (1, 1)), False), (((0,), (0, 0)), False), (((0,), (0, 2)), False), (((0,), (0, -1)), False),
            (((0,), (0, True)), False), (((False,), (0, 1)), False), (([0], (0, 1)), False), (((0,), [0, 1]), False),
            (((0,), (0, 1), ()), False), ([(0,), (0, 1)], False), (((0,), (0, None)), False), (((0,), ("", "")), False),
        ):
            self.assertIs(is_path_along(OFTEN, loop, thing), wanted, thing)
        for thing in JUNK:
            self.assertIs(is_path_along(OFTEN, loop, thing), False)
            self.assertIs(is_path_along(EDGES[0], loop, thing), False)

    def test_some_loop_fewest_and_numbers(self):
        for machine in some_machines(97, 300, standings=5, moves=9):
            leads = machine_leads(machine)
            fewest = plain_fewest(machine[1], leads, lambda node: node, machine[3])
            self.assertEqual(fewest_standings(machine), fewest)
            self.assertIs(takes_any(machine), fewest is not None)
            loop, numbers = some_loop(machine), numbers_for(machine)
            self.assertIs(loop is None, fewest is None)
            self.assertIs(numbers is None, fewest is not None)
            if loop is not None:
                self.assertTrue(plain_takes(machine, loop))
            else:
                self.assertTrue(plain_numbers(machine, numbers))
                self.assertIs(is_numbers_for(machine, numbers), True)

    def test_no_numbers_where_some_loop_is_taken(self):
        maker, good = Maker(98), 0
        for machine in some_machines(99, 500, standings=3, moves=5):
            numbers = tuple([maker.pick(None, 0, 1, 2, 0, 1) for _ in range(machine[0])])
            many = max([number for number in numbers if number is not None], default=-1) + 1
            sets = tuple([maker.pick(None, 0, 1) for _ in range(many)])
            wanted = plain_numbers(machine, (numbers, sets))
            good += wanted
            self.assertIs(is_numbers_for(machine, (numbers, sets)), wanted)
            self.assertFalse(wanted and takes_any(machine))
        self.assertGreater(good, 20)

    def test_what_numbers_are_none(self):
        good = ((1, 0), (None, 0))
        self.assertIs(is_numbers_for(NEVER, good), True)
        # Numbers that nothing has need a set, too, or None; those that are not the least do.
        for thing in (((3, 1), (None, 0, None, 0)), ((1, None), (None, 0)), ((0, 0), (0,)), ((1, 0), (0, 0))):
            self.assertEqual(is_numbers_for(NEVER, thing), plain_numbers(NEVER, thing), thing)
        for thing in JUNK + (
            ((1, 0), (None,)), ((1, 0), (None, 0, 0)), ((1, 0), (None, 1)), ((1, 0), (None, -1)), ((1, 0), (None, True)),
            ((1, 0), (False, 0)), ((True, 0), (None, 0)), ((1, False), (None, 0)), ((1,), (None, 0)), ((1, 0, 0), (None, 0)),
            ((None, None), ()), ((-1, 0), ()), ([1, 0], (None, 0)), ((1, 0), [None, 0]), ((10 ** 30, 0), (None, 0)), ((1, 0), ("", 0)),
            ((0, 1), (None, None)),
        ):
            self.assertIs(is_numbers_for(NEVER, thing), False, thing)
        self.assertIs(is_numbers_for(EDGES[0], ((), ())), True)
        self.assertIs(is_numbers_for((2, (), ((0, (), (), 0),), ()), ((None, None), ())), True)
        self.assertIs(is_numbers_for((2, (), ((0, (), (), 0),), ()), ((0, None), (None,))), False)
        self.assertIs(is_numbers_for((1, (0,), ((0, P, P, 0),), ()), ((0,), (None,))), True)
        for thing in changed_things(good):
            self.assertIn(is_numbers_for(NEVER, thing), (True, False))

    def test_live_and_lean(self):
        maker = Maker(100)
        for machine in some_machines(101, 200):
            live = plain_live(machine)
            self.assertEqual(live_standings(machine), live)
            places = {standing: at for at, standing in enumerate(live)}
            wanted = (
                len(live), tuple([places[one] for one in machine[1] if one in places]),
                tuple([
                    (places[row[0]], row[1], row[2], places[row[3]]) for row in machine[2]
                    if can_ever_be_made(row) and row[0] in places and row[3] in places
                ]),
                tuple([tuple([places[one] for one in row if one in places]) for row in machine[3]]),
            )
            self.assertEqual(lean(machine), wanted)
            self.assertIs(is_machine(wanted), True)
            for loop in [maker.loop("pq", 3) for _ in range(3)]:
                self.assertIs(takes(wanted, loop), takes(machine, loop))

    def test_words_told_nowhere_in_a_machine_do_not_matter(self):
        loop = ((("x",),), (("p", "y"), ("z",)))
        self.assertIs(takes(OFTEN, loop), True)
        self.assertIs(takes(OFTEN, ((), (("x", "y"),))), False)


class LargeMachines(Case):
    def test_as_large_as_the_bounds_allow(self):
        machine = large()
        self.assertIs(is_machine(machine), True)
        self.assertEqual((len(machine[2]), len(machine[3]), len(words_read(machine))), (400, 4, 4))
        loop = ((("a",), ("b",), ("a", "b")), (("c",), ("a", "d"), (), ("a", "b", "d"), ("d",)))
        self.assertEqual(takes(machine, loop), plain_takes_large(machine, loop))
        found = some_loop(machine)
        self.assertIs(takes(machine, found), True)
        self.assertIs(is_path_along(machine, found, path_along(machine, found)), True)
        self.assertGreater(fewest_standings(machine), 1)
        self.assertIsNone(numbers_for(machine))
        nothing = machine[:3] + (machine[3] + ((),),)
        self.assertIs(is_numbers_for(nothing, numbers_for(nothing)), True)
        self.assertEqual(live_standings(lean(machine)), tuple(range(lean(machine)[0])))


def plain_takes_large(machine, loop):
    """Whether it takes the LOOP, by taking away what goes round no more, again and again."""
    many, starts, moves, marks = machine
    sets = loop[0] + loop[1]
    leads = {}
    for place, told in enumerate(sets):
        ahead = place + 1 if place + 1 < len(sets) else len(loop[0])
        for standing in range(many):
            leads[place, standing] = {
                (ahead, row[3]) for row in moves if row[0] == standing and can_be_made(row, told)
            }
    left = set(leads)
    changed = True
    while changed:
        size = len(left)
        for row in [range(many)] + [set(own) for own in marks]:
            # Those left from which some of row can be come to by one step or more.
            good = set()
            grown = True
            while grown:
                more = {node for node in left if any([
                    goal in good or goal[1] in row for goal in leads[node] & left
                ])}
                grown = more != good
                good = more
            left = good
        changed = len(left) != size
    found = {(0, standing) for standing in starts}
    for _ in range(len(leads)):
        found |= {goal for node in found for goal in leads[node]}
    return bool(found & left)


if __name__ == "__main__":
    unittest.main()
