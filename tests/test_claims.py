"""CLAIMS, what they say, PAPERS for and against them, HOLDS."""

import unittest

from helper import JUNK, LOW, ONE, SAMPLE, X, Case, changed_things, free_clock, listed, with_parts
from laps import some_laps
from papers import Said, small_systems, some_claims
from runclaims.claims import is_claim, is_hold, is_paper_against, is_paper_for, paper_against, paper_for, stands
from runclaims.errors import Unfit
from runclaims.fair import keeps_fairly
from runclaims.reach import all_states
from runclaims.states import begin

P, PASS = ("word", "p"), ("pass",)
EVER, NEVER = ("same", ONE, ONE), ("less", ONE, ONE)
HEARD = (("p", LOW), ("q", ("stands", "a", "top")))
CLAIMS = (
    ("always", LOW), ("can", ("full", "q")), ("back", ("not", ("stands", "a", "top"))), ("checked",), ("moves",),
    ("keeps", HEARD, ("until", P, ("word", "q")), ("none", "strong")), ("keeps", (), ("true",), ("weak", "weak")),
)


def is_small(claim, system):
    """Whether the plain second telling can work it out soon."""
    if claim[0] != "keeps":
        return True
    said = Said(system)
    nodes = [(state, turn) for state in said.states for turn in said.goings.ready(state)]
    return len(nodes) < 40


def samples(seed, many, most=8):
    for maker, system in small_systems(seed, many, most):
        for claim in some_claims(maker, system, 3):
            if is_small(claim, system):
                yield maker, system, claim, Said(system)


class Forms(Case):
    def test_what_is_a_claim(self):
        for claim in CLAIMS:
            self.assertIs(is_claim(SAMPLE, claim), True)
            self.assertIs(is_claim(listed(SAMPLE), claim), True)
            self.assertIs(is_claim(SAMPLE, listed(claim)), False)
            for thing in changed_things(claim):
                told = is_claim(SAMPLE, thing)
                self.assertIs(type(told), bool)
                self.assertFalse(told and ("[" in repr(thing) or "True" in repr(thing) or "None" in repr(thing)))

    def test_what_is_none(self):
        good = CLAIMS[5]
        for thing in JUNK + (
            ("always",), ("can", LOW, LOW), ("back", X), ("always", ("empty", "z")), ("can", ("stands", "b", "top")), ("checked", LOW), ("moves", ()),
            ("never", LOW), (["moves"],), ["moves"], "moves", ("moves",) * 2, ("keeps", HEARD, P), ("keeps", HEARD[::-1], P, ("none", "none")),
            ("keeps", (), P, ("none", "none")), ("keeps", HEARD, ("word", "r"), ("none", "none")), ("keeps", HEARD, P, ("none",)), ("keeps", HEARD, P, ("none",) * 3),
            ("keeps", HEARD, P, ("none", "some")), ("keeps", HEARD, P, ["none", "none"]), ("keeps", HEARD, P, ("none", None)), ("keeps", HEARD, ("some", P), ("none", "none")),
            ("keeps", (("p", ("empty", "z")),), P, ("none", "none")), (*good, ()), ("always", ["less", X, ONE]), ("keeps", [HEARD[0]], P, ("none", "none")),
            ("keeps", HEARD, P, (("none",), "none")), (("moves",),), ("keeps",), (None,), (True,), ("moves", None),
        ):
            self.assertIs(is_claim(SAMPLE, thing), False, thing)

    def test_what_is_no_claim_is_refused(self):
        for claim in (("always", ("empty", "z")), ("moves", LOW), (), ("keeps", HEARD, ("word", "r"), ("none", "none")), ("keeps", HEARD, P, ("weak",)), ("can", X)):
            for call, more in ((stands, ()), (paper_for, ()), (paper_against, ()), (is_paper_for, ((),)), (is_paper_against, (None,)), (is_paper_for, ("x",))):
                self.assert_raises(Unfit, {}, call, SAMPLE, claim, *more)
                self.assert_raises(Unfit, {}, call, listed(SAMPLE), listed(claim), *more)


class Holds(Case):
    def test_what_is_a_hold(self):
        good = 0
        for maker, system in small_systems(241, 60, 8):
            said = Said(system)
            states = tuple(sorted(said.states))
            self.assertIs(is_hold(system, states), True)
            self.assertIs(is_hold(system, listed(states)), False)
            self.assertIs(is_hold(system, list(states)), False)
            for at in range(len(states)):
                self.assertIs(is_hold(system, states[:at] + states[at + 1:]), False)
            self.assertIs(is_hold(system, states[::-1]), len(states) == 1)
            self.assertIs(is_hold(system, states + states[-1:]), False)
            # STATES that are not come to may be in it, too.
            far = (states[-1][0], tuple([maker.random.randint(0, row[1]) for row in system[0]]), states[-1][2], -1)
            more = tuple(sorted(set(states) | {far}))
            self.assertIs(is_hold(system, more), said.is_hold(more))
            good += said.is_hold(more) and far not in states
        self.assertGreater(good, 5)
        still = with_parts((), ())
        for thing in JUNK + (((begin(still), 0),), (begin(still), None), ((begin(still),),)):
            self.assertIs(is_hold(still, thing), False)
        self.assertIs(is_hold(still, (begin(still),)), True)


class Papers(Case):
    def test_what_they_say_and_papers(self):
        kinds = set()
        for maker, system, claim, said in samples(242, 220):
            so = said.stands(claim)
            kinds.add((claim[0], so))
            self.assertIs(stands(system, claim), so, (system, claim))
            self.assertIs(stands(listed(system), listed(claim)), so)
            good, bad = paper_for(system, claim), paper_against(system, claim)
            self.assertEqual((good is not None, bad is not None), (so, not so), (system, claim))
            if so:
                self.assertTrue(said.is_for(claim, good), (system, claim, good))
                self.assertIs(is_paper_for(system, claim, good), True)
                self.assertIs(is_paper_for(system, claim, listed(good)), False)
                self.assertIs(is_paper_against(system, claim, good), False)
            else:
                self.assertTrue(said.is_against(claim, bad), (system, claim, bad))
                self.assertIs(is_paper_against(system, claim, bad), True)
                self.assertIs(is_paper_against(system, claim, listed(bad)), False)
                self.assertIs(is_paper_for(system, claim, bad), False)
            if claim[0] == "keeps":
                self.assertIs(keeps_fairly(system, *claim[1:]), so)
        self.assertEqual(len(kinds), 12, kinds)

    def test_papers_longer_than_they_must_be(self):
        some = {}
        for maker, system, claim, said in samples(243, 150):
            goings = said.goings
            for lap in some_laps(maker, goings, 2):
                row = tuple([turn for turn in lap[0] + lap[1] if turn != ()])
                tries = [row[:at] for at in range(len(row) + 1)]
                if claim[0] in ("can",):
                    self.assert_same(is_paper_for, said.is_for, system, claim, tries, some)
                elif claim[0] in ("always", "checked", "moves"):
                    self.assert_same(is_paper_against, said.is_against, system, claim, tries, some)
                elif claim[0] == "keeps":
                    self.assert_same(is_paper_against, said.is_against, system, claim, [lap, (lap[0] + lap[1], lap[1] * 2)], some)
                else:
                    states = [tuple(sorted(set(states))) for states in ([said.states[-1]], said.states[1:], said.states)]
                    self.assert_same(is_paper_against, said.is_against, system, claim, [(one, own) for one in tries for own in states], some)
        self.assertEqual({kind for kind, good in some if good}, {"can", "always", "checked", "moves", "keeps", "back"})

    def assert_same(self, call, plain, system, claim, tries, some):
        for thing in tries:
            wanted = plain(claim, thing)
            some[(claim[0], wanted)] = True
            self.assertIs(call(system, claim, thing), wanted, (system, claim, thing))

    def test_holds_as_papers(self):
        seen = set()
        for maker, system, claim, said in samples(244, 150):
            states = tuple(sorted(said.states))
            far = {(row[0], tuple([maker.random.randint(0, one[1]) for one in system[0]]), row[2], row[3]) for row in states}
            for thing in (states, tuple(sorted(set(states) | far)), states[1:], tuple(sorted(said.states[:-1]))):
                if claim[0] in ("always", "checked", "moves"):
                    self.assertIs(is_paper_for(system, claim, thing), said.is_for(claim, thing), (system, claim, thing))
                    seen.add((claim[0], said.is_for(claim, thing)))
                if claim[0] == "can":
                    self.assertIs(is_paper_against(system, claim, thing), said.is_against(claim, thing))
                    seen.add((claim[0], said.is_against(claim, thing)))
        self.assertEqual(len(seen), 8)

    def test_numbers_of_back(self):
        seen = set()
        for maker, system, claim, said in samples(245, 150):
            if claim[0] == "back" and said.stands(claim):
                good = paper_for(system, claim)
                for thing in (
                    good, tuple([(state, number * 2) for state, number in good]), tuple([(state, number + (number > 0)) for state, number in good]),
                    tuple([(state, number and 1) for state, number in good]), tuple([(state, 1) for state, _ in good]), good[1:], good[:-1],
                    tuple([(state, -number) for state, number in good]), tuple([(state, 0) for state, _ in good]), good[::-1], good + good[-1:],
                    tuple([(state, maker.random.randint(0, 3)) for state, _ in good]),
                ):
                    self.assertIs(is_paper_for(system, claim, thing), said.is_for(claim, thing), (system, claim, thing))
                    seen.add((len(good) > 2, said.is_for(claim, thing)))
        self.assertEqual(len(seen), 4)

    def test_tests_that_are_so_nowhere_and_everywhere(self):
        ended, waits = with_parts((PASS,), (PASS,)), with_parts((("when", NEVER),))
        for system, wanted in ((ended, (True, False, True, False, True, False, True, True)), (waits, (True, False, True, False, True, False, True, False))):
            claims = (("always", EVER), ("always", NEVER), ("can", EVER), ("can", NEVER), ("back", EVER), ("back", NEVER), ("checked",), ("moves",))
            self.assertEqual(tuple([stands(system, claim) for claim in claims]), wanted)
        self.assertEqual(paper_against(ended, ("always", NEVER)), ())
        self.assertEqual(paper_for(ended, ("can", EVER)), ())
        self.assertEqual(paper_against(waits, ("moves",)), ())
        self.assertEqual(paper_against(waits, ("back", NEVER)), ((), (begin(waits),)))
        self.assertEqual(paper_for(waits, ("back", EVER)), ((begin(waits), 0),))
        self.assertEqual(paper_against(ended, ("can", NEVER)), tuple(all_states(ended)))

    def test_the_kinds(self):
        turning, one = (("again", ((("let", "x", ("gap", ONE, X)),),)),), ("let", "won", ONE)
        system = ((("won", 1, 0), ("x", 1, 0)), (), (("ann", turning), ("bob", (("when", ("same", X, ONE)), one))))
        win = (("win", ("same", ("cell", "won"), ONE)),)
        for kinds, wanted in ((("none", "none"), False), (("strong", "weak"), False), (("none", "strong"), True), (("strong", "strong"), True)):
            claim = ("keeps", win, ("ever", ("word", "win")), kinds)
            self.assertIs(stands(system, claim), wanted)
            self.assertIs(is_paper_for(system, claim, paper_for(system, claim)), wanted)
            self.assertIs(is_paper_against(system, claim, paper_against(system, claim)), not wanted)

    def test_near_and_far_papers(self):
        for maker, system, claim, said in samples(246, 25, 6):
            for find, ask, plain in ((paper_for, is_paper_for, said.is_for), (paper_against, is_paper_against, said.is_against)):
                paper = find(system, claim)
                near = [] if paper is None else list(changed_things(paper))[:60]
                for thing in list(JUNK) + near:
                    told = ask(system, claim, thing)
                    self.assertIs(type(told), bool)
                    self.assertFalse(told and ("[" in repr(thing) or "True" in repr(thing) or "None" in repr(thing)), (claim, thing))
                    if told and claim[0] != "keeps":
                        self.assertTrue(plain(claim, thing))

    def test_as_large_as_the_bounds_allow(self):
        system = free_clock((9, 9, 4))
        z, heard = ("same", ("cell", "z"), ONE), (("w", ("same", ("cell", "z"), ONE)),)
        often = ("always", ("ever", ("word", "w")))
        for claim, wanted in (
            (("always", ("less", ("cell", "z"), ("number", 5))), True), (("can", ("same", X, ("number", 9))), True), (("checked",), True), (("moves",), True),
            (("back", z), True), (("keeps", heard, often, ("none", "none", "none")), False), (("keeps", heard, often, ("none", "none", "weak")), True),
            (("keeps", heard, ("not", often), ("weak",) * 3), False),
        ):
            self.assertIs(stands(system, claim), wanted)
            good, bad = paper_for(system, claim), paper_against(system, claim)
            self.assertIs(is_paper_for(system, claim, good), wanted)
            self.assertIs(is_paper_against(system, claim, bad), not wanted)




if __name__ == "__main__":
    unittest.main()
