"""MACHINES made from others and for FORMULAS; what FORMULAS mean."""

import itertools
import unittest

from helper import JUNK, Case, Maker, listed
from plainmachines import plain_takes
from runclaims.formulas import core, formula_from, inward, is_true, opposite, size_of
from runclaims.machines import is_machine, some_loop, takes
from runclaims.makers import (
    both_machine, can_be, either_machine, implies, is_loop_apart, is_sure, loop_apart, loop_for,
    machine_for, mean_same, one_set, only_against, takes_only,
)
from runclaims.loops import is_loop
from test_machines import EDGES, NEVER, OFTEN, large, some_machines

P, Q, TRUE = ("word", "p"), ("word", "q"), ("true",)
LOOPS = [
    (sets[:front], sets[front:]) for many in (1, 2, 3) for front in range(many)
    for sets in itertools.product(((), ("p",), ("p", "q"), ("q",)), repeat=many)
]
DEEP = (
    "ever always [ p unless q ]", "always [ p unless ever q ]", "not [ p until not [ q until p ] ]",
    "always ever next next p", "ever next next always p", "next not next p", "not true", "true", "ever not true",
    "always ever p and always ever q", "ever always p or ever always q", "p until q until p until q",
    "[ p unless q ] unless [ q until p ]", "not [ ever p and ever q ]", "p and not p", "next [ p and not p ]",
    "always [ p or next [ q until not p ] ]", "ever [ p and next p and next next p ]", "not not not p",
)


def some_formulas(seed, many, depth=4):
    maker = Maker(seed)
    made = [maker.formula("pq", depth) for _ in range(many)]
    return [formula_from(text) for text in DEEP] + [formula for formula in made if size_of(formula) <= 12]


class MachinesFromOthers(Case):
    def test_one_set(self):
        maker = Maker(111)
        for machine in some_machines(112, 250, sets=4):
            made = one_set(machine)
            self.assertIs(is_machine(made), True)
            self.assertEqual(len(made[3]), 1)
            for loop in [maker.loop("pq", 4) for _ in range(4)]:
                self.assertIs(plain_takes(made, loop), plain_takes(machine, loop))

    def test_both_and_either(self):
        maker = Maker(113)
        machines = some_machines(114, 40)
        for _ in range(250):
            one, other = maker.pick(*machines), maker.pick(*machines)
            both, either = both_machine(one, other), either_machine(one, other)
            self.assertIs(is_machine(both) and is_machine(either), True)
            for loop in [maker.loop("pq", 4) for _ in range(3)]:
                told = plain_takes(one, loop), plain_takes(other, loop)
                self.assertIs(plain_takes(both, loop), all(told))
                self.assertIs(plain_takes(either, loop), any(told))

    def test_all_pairs_of_the_edges(self):
        loops = [loop for loop in LOOPS if len(loop[0] + loop[1]) < 3]
        for one, other in itertools.product(EDGES, repeat=2):
            both, either = both_machine(one, other), either_machine(one, other)
            for loop in loops:
                told = plain_takes(one, loop), plain_takes(other, loop)
                self.assertIs(takes(both, loop), all(told))
                self.assertIs(takes(either, loop), any(told))


class MachinesForFormulas(Case):
    def test_machines_take_just_the_loops_of_which_it_is_true(self):
        maker = Maker(115)
        for formula in some_formulas(116, 120):
            machine = machine_for(formula)
            self.assertIs(is_machine(machine), True)
            for loop in maker.random.sample(LOOPS, 25):
                self.assertIs(plain_takes(machine, loop), is_true(formula, loop), (formula, loop))

    def test_all_short_loops(self):
        for text in DEEP:
            formula = formula_from(text)
            machine = machine_for(formula)
            for loop in LOOPS:
                self.assertIs(takes(machine, loop), is_true(formula, loop), (text, loop))

    def test_machines_are_small(self):
        for text, many in (
            ("true", 1), ("not true", 0), ("p", 2), ("always p", 1), ("always ever p", 2), ("ever always p", 2),
            ("p until q", 2), ("p and not p", 0), ("ever p", 2),
        ):
            self.assertEqual(machine_for(formula_from(text))[0], many, text)

    def test_loops_for_formulas(self):
        for formula in some_formulas(117, 150):
            found = loop_for(formula)
            self.assertIs(can_be(formula), found is not None)
            self.assertIs(is_sure(opposite(formula)), found is None)
            self.assertIs(is_sure(("not", formula)), found is None)
            if found is None:
                self.assertFalse(any([is_true(formula, loop) for loop in LOOPS]))
            else:
                self.assertTrue(is_loop(found) and is_true(formula, found))

    def test_what_a_machine_takes_only(self):
        maker = Maker(118)
        for machine in some_machines(119, 120):
            formula = maker.formula("pq", 3)
            found = only_against(machine, formula)
            self.assertIs(takes_only(machine, formula), found is None)
            if found is not None:
                self.assertTrue(plain_takes(machine, found) and not is_true(formula, found))
            else:
                for loop in LOOPS[::5]:
                    self.assertTrue(is_true(formula, loop) or not takes(machine, loop))
        self.assertIs(takes_only(NEVER, ("not", TRUE)), True)
        self.assertIs(takes_only(OFTEN, ("ever", ("word", "zz"))), False)
        for formula in some_formulas(120, 40):
            self.assertIs(takes_only(machine_for(formula), formula), True)
            self.assertIs(takes_only(machine_for(("not", formula)), formula), not can_be(("not", formula)))


class Meanings(Case):
    def test_known_laws(self):
        for one, other in (
            ("ever p", "true until p"), ("always p", "p unless not true"), ("not [ p until q ]", "not q unless [ not p and not q ]"),
            ("p until q", "[ p unless q ] and ever q"), ("always always p", "always p"), ("not next p", "next not p"),
            ("always ever always p", "ever always p"), ("ever [ p or q ]", "ever p or ever q"), ("next [ p until q ]", "next p until next q"),
            ("p until [ p until q ]", "p until q"), ("always [ p and q ]", "always p and always q"), ("p unless q", "always p or [ p until q ]"),
        ):
            one, other = formula_from(one), formula_from(other)
            self.assertIs(mean_same(one, other), True, (one, other))
            self.assertIsNone(loop_apart(one, other))
            self.assertIs(implies(one, other) and implies(other, one), True)
        for one, other in (
            ("always p", "p"), ("p", "ever p"), ("p until q", "ever q"), ("ever always p", "always ever p"),
            ("p until q", "p unless q"), ("always ever [ p and q ]", "always ever p and always ever q"), ("not true", "p"), ("p", "true"),
        ):
            one, other = formula_from(one), formula_from(other)
            self.assertIs(implies(one, other), True)
            self.assertIs(implies(other, one), False)
            self.assertIs(mean_same(one, other), False)
            self.assertIs(is_loop_apart(one, other, loop_apart(one, other)), True)

    def test_meanings_against_short_loops(self):
        maker = Maker(121)
        apart = 0
        for _ in range(150):
            one, other = maker.formula("pq", 3), maker.formula("pq", 3)
            differing = [loop for loop in LOOPS if is_true(one, loop) != is_true(other, loop)]
            found = loop_apart(one, other)
            self.assertIs(mean_same(one, other), found is None)
            self.assertIs(implies(one, other) and implies(other, one), found is None)
            if found is None:
                self.assertEqual(differing, [])
            else:
                apart += 1
                self.assertTrue(is_true(one, found) != is_true(other, found))
            against = [loop for loop in LOOPS if is_true(one, loop) and not is_true(other, loop)]
            self.assertFalse(implies(one, other) and against)
        self.assertGreater(apart, 60)

    def test_what_formulas_are_turned_into_means_the_same(self):
        for formula in some_formulas(122, 80, 3):
            self.assertIs(mean_same(formula, inward(formula)), True)
            self.assertIs(mean_same(formula, core(formula)), True)
            self.assertIs(mean_same(("not", formula), opposite(formula)), True)
            self.assertIs(mean_same(formula, opposite(formula)), False)

    def test_loops_apart(self):
        one, other = ("ever", P), ("always", P)
        for loop in LOOPS:
            self.assertIs(is_loop_apart(one, other, loop), is_true(one, loop) != is_true(other, loop))
            self.assertIs(is_loop_apart(one, other, listed(loop)), False)
        far = (((),) * 400, (("p",), ()))
        self.assertIs(is_loop_apart(one, other, far), True)
        for thing in JUNK:
            self.assertIs(is_loop_apart(one, other, thing), False)
            self.assertIs(is_loop_apart(TRUE, ("not", TRUE), thing), is_loop(thing))


class LargeMakers(Case):
    def test_as_large_as_the_bounds_allow(self):
        machine, other = large(), large(3)
        both = both_machine(machine, other)
        self.assertIs(is_machine(both), True)
        found = some_loop(both)
        self.assertIs(takes(machine, found) and takes(other, found), True)
        self.assertEqual(either_machine(machine, other)[0], 120)
        made = one_set(machine)
        self.assertIs(takes(made, found), True)
        formula = formula_from("always ever a and ever always [ b or c ]")
        against = only_against(machine, formula)
        self.assertIs(takes(machine, against) and not is_true(formula, against), True)

    def test_formulas_of_eight_tuples(self):
        for text in (
            "always c until always next next next d", "next next next next a unless ever b", "always ever [ a until next next b ]",
            "ever a and ever b and ever c", "ever always [ always c until always always a ]", "a until b until c until d",
            "a until [ b until [ c until d ] ]", "[ a unless b ] unless [ c unless d ]", "not next not next not next next a",
        ):
            formula = formula_from(text)
            self.assertLessEqual(size_of(formula), 8)
            for made in (machine_for(formula), machine_for(opposite(formula))):
                self.assertLessEqual(one_set(made)[0], 60)
                self.assertLessEqual(len(one_set(made)[2]), 400)
            self.assertIs(mean_same(formula, core(formula)), True)


if __name__ == "__main__":
    unittest.main()
