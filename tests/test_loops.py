"""LOOPS and their runs."""

import itertools
import unittest

from helper import JUNK, Case, Maker, listed
from runclaims.errors import NoNumber, Unfit
from runclaims.loops import (
    alike_but_repeats, are_alike, is_loop, least_loop, run_from, told_there, with_repeats,
    without_repeats,
)

A, B, N = ("a",), ("b",), ()
SHORT = [
    ((*sets[:front],), (*sets[front:],))
    for many in (1, 2, 3, 4) for front in range(many) for sets in itertools.product((A, N), repeat=many)
]


def run(loop, many):
    """The first sets of the run, as many as these."""
    front, circle = loop
    return [front[at] if at < len(front) else circle[(at - len(front)) % len(circle)] for at in range(many)]


def squeezed_run(loop, many):
    """The first sets of the run without repeats, told by going far along the run itself."""
    row = run(loop, 200)
    found = [told for at, told in enumerate(row) if at == 0 or row[at - 1] != told]
    return (found + [row[-1]] * many)[:many]


class Loops(Case):
    def test_loops(self):
        for thing in (
            ((), (N,)), ((A,), (A,)), ((), (("a", "b"), N)), ((N, N), (N, N)), ((("let", "same"),), (("x",),)),
            ((A,) * 50, (B,) * 50),
        ):
            self.assertIs(is_loop(thing), True)
            self.assertIs(is_loop(listed(thing)), False)
        for thing in JUNK + (
            ((), ()), ((A,), ()), ((), (A,), ()), (A, (A,)), ((A,), A), ([], (A,)), ((), [A]), ((), (["a"],)),
            ((), (("b", "a"),)), ((), (("a", "a"),)), ((), (("go",),)), ((), ((1,),)), ((), (None,)), ((), ("a",)),
            ((("B",),), (A,)), ((None,), (A,)), (None, (A,)), ((), (A, [])), ((), (A, True)), ((), ((A,),)),
        ):
            self.assertIs(is_loop(thing), False, thing)

    def test_places_of_the_run(self):
        loop = ((A, B), (N, ("a", "b"), B))
        wanted = run(loop, 40)
        self.assertEqual([told_there(loop, at) for at in range(40)], wanted)
        self.assertEqual(told_there(loop, 2 + 3 * 10 ** 20 + 1), ("a", "b"))
        for at in range(20):
            there = run_from(loop, at)
            self.assertEqual(run(there, 20), wanted[at:at + 20])
            self.assertEqual(there[0], loop[0][at:])
        self.assertEqual(run_from(loop, 0), loop)
        self.assertEqual(run_from(loop, 1), ((B,), loop[1]))
        self.assertEqual(run_from(loop, 2), ((), loop[1]))
        self.assertEqual(run_from(loop, 3), ((), (("a", "b"), B, N)))
        self.assertEqual(run_from(loop, 5), ((), loop[1]))
        self.assertEqual(run_from(loop, 3 * 10 ** 20 + 4), ((), (B, N, ("a", "b"))))
        for call in (told_there, run_from):
            for number in (-1, -5):
                self.assert_raises(NoNumber, {"number": number}, call, loop, number)

    def test_least_loops(self):
        for loop, wanted in (
            (((), (A,)), ((), (A,))), (((), (A, A, A)), ((), (A,))), (((A, A), (A,)), ((), (A,))),
            (((), (A, B, A, B)), ((), (A, B))), (((A,), (B, A)), ((), (A, B))), (((B, A), (B, A)), ((), (B, A))),
            (((A, B), (A,)), ((A, B), (A,))), (((N, A), (B, A, B, A)), ((N,), (A, B))), (((A, B), (A, A)), ((A, B), (A,))),
            (((), (A, B, A)), ((), (A, B, A))), (((A,), (A, B)), ((A,), (A, B))), (((), (A, A, B, A, A, B)), ((), (A, A, B))),
        ):
            self.assertEqual(least_loop(loop), wanted)

    def test_least_loops_are_least_and_one(self):
        runs = {}
        for loop in SHORT:
            runs.setdefault(tuple(run(loop, 40)), []).append(loop)
        for row, loops in runs.items():
            least = {least_loop(loop) for loop in loops}
            self.assertEqual(len(least), 1)
            many = min([len(front) + len(circle) for front, circle in loops])
            one = least.pop()
            self.assertEqual(len(one[0]) + len(one[1]), many)
            self.assertEqual(tuple(run(one, 40)), row)

    def test_alike(self):
        for one, other in itertools.product(SHORT, repeat=2):
            self.assertIs(are_alike(one, other), run(one, 40) == run(other, 40))
            wanted = squeezed_run(one, 40) == squeezed_run(other, 40)
            self.assertIs(alike_but_repeats(one, other), wanted)

    def test_without_repeats(self):
        for loop, wanted in (
            (((), (A,)), ((), (A,))), (((A, A), (B, B)), ((A,), (B,))), (((A, A), (B, A, A)), ((), (A, B))),
            (((), (A, A, B, B)), ((), (A, B))), (((A,), (A, B)), ((), (A, B))), (((B,), (A, B, B)), ((), (B, A))),
            (((N,), (A, B, A)), ((N,), (A, B))), (((A,), (A, A)), ((), (A,))), (((B, A), (A,)), ((B,), (A,))),
            (((), (A, B, A)), ((), (A, B))),
        ):
            self.assertEqual(without_repeats(loop), wanted)
        for loop in SHORT:
            there = without_repeats(loop)
            self.assertEqual(run(there, 40), squeezed_run(loop, 40))
            self.assertEqual(there, least_loop(there))
            self.assertEqual(without_repeats(there), there)

    def test_with_repeats(self):
        loop = ((A,), (B, N))
        self.assertEqual(with_repeats(loop, (2, 1, 3)), ((A, A), (B, N, N, N)))
        self.assertEqual(with_repeats(loop, [1, 1, 1]), loop)
        self.assertEqual(with_repeats(((), (A,)), (5,)), ((), (A,) * 5))
        for numbers in ((), (1,), (1, 1), (1, 1, 1, 1)):
            self.assert_raises(Unfit, {}, with_repeats, loop, numbers)
        maker = Maker(31)
        for _ in range(60):
            loop = maker.loop("ab", 6)
            numbers = [maker.random.randint(1, 3) for _ in loop[0] + loop[1]]
            slow = with_repeats(loop, numbers)
            self.assertIs(is_loop(slow), True)
            self.assertIs(alike_but_repeats(slow, loop), True)
            self.assertEqual(without_repeats(slow), without_repeats(loop))


if __name__ == "__main__":
    unittest.main()
