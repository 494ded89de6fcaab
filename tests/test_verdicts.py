"""What a SYSTEM keeps, LAPS, witnesses, verdicts with their papers."""

import unittest

from goings import Goings
from helper import JUNK, Case, Maker, changed_things, free_clock, listed, ring
from laps import plain_lap, plain_told, some_laps
from plainmachines import PlainPairs, entries_of_rounds
from runclaims.errors import NotReady, NoWord, Unfit
from runclaims.formulas import formula_from, is_true, opposite
from runclaims.makers import machine_for, one_set
from runclaims.ranks import is_ranks, ranks
from runclaims.states import begin
from runclaims.verdicts import (
    against, hangs_on, is_against, is_lap, is_verdict, is_witness, keeping_states, keeps, kept_of,
    lap_told, latest_told, soonest_told, verdict, witness,
)

ON, X = ("word", "on"), ("word", "x")
HEARD = (("on", ("same", ("cell", "n"), ("number", 1))),)
FLIP = ((("n", 1, 0),), (), (("flip", (("again", ((("let", "n", ("gap", ("number", 1), ("cell", "n"))),),)),)),))
FREE = ((("n", 1, 0),), (), (("free", (("again", ((("let", "n", ("number", 0)),), (("let", "n", ("number", 1)),))),)),))
ENDED = ((("n", 1, 1),), (), (("a", ()), ("b", ())))
NEVER, EVER = ("less", ("number", 1), ("number", 0)), ("same", ("number", 0), ("number", 0))


def samples(seed, many, most=20):
    """Triples of a system, HEARD words of it and a FORMULA about them."""
    maker = Maker(seed)
    for _ in range(many):
        system = maker.small(most, parts=maker.random.randint(1, 3))
        yield maker, system, maker.heard(system, "pq"), maker.formula("pq", 3)


def runs_from(pairs, state):
    """The pairs with this STATE and a standing to start with."""
    return [(state, standing) for standing in pairs.machine[1]]


class Laps(Case):
    def test_laps(self):
        good = 0
        for maker, system, heard, _ in samples(151, 60):
            goings = Goings(system)
            for lap in some_laps(maker, goings, 3):
                self.assertIs(is_lap(system, lap), True)
                self.assertIs(is_lap(system, listed(lap)), False)
                self.assertEqual(lap_told(system, heard, lap), plain_told(goings, heard, lap))
                self.assertEqual(lap_told(system, heard, listed(lap)), plain_told(goings, heard, lap))
            for thing in list(changed_things(some_laps(maker, goings, 1)[0]))[:80]:
                wanted = plain_lap(goings, thing) is not None
                good += wanted
                self.assertIs(is_lap(system, thing), wanted, thing)
        self.assertGreater(good, 20)

    def test_what_is_no_lap(self):
        for thing in JUNK + (
            ((), ()), (((0, 0),), ()), ((), ((0, 0),)), (((0, 0),), ((0, 0),)), ((), ((),)), ((), ((0, 0), (0, False))),
            ((), ((0, 0), [0, 0])), ((), [(0, 0), (0, 0)]), ([], ((0, 0), (0, 0))), ((), ((0, 0), (0, 0)), ()), ((), ((0, 1), (0, 0))),
            ((), ((0, 0), (0, 0, 0, 0))), ((), ((0, 0), (0,))), ((), (None, (0, 0))), ((), ("", "")), ((), ((0, 10 ** 30), (0, 0))),
        ):
            self.assertIs(is_lap(FLIP, thing), False, thing)
        self.assertIs(is_lap(FLIP, ((), ((0, 0), (0, 0)))), True)
        self.assertIs(is_lap(FLIP, (((0, 0),), ((0, 0),) * 4)), True)
        self.assertIs(is_lap(ENDED, ((), ((),))), True)
        self.assertIs(is_lap(ENDED, (((), ()), ((), ()))), True)

    def test_what_laps_tell(self):
        self.assertEqual(lap_told(FLIP, HEARD, ((), ((0, 0), (0, 0)))), ((), ((), ("on",))))
        self.assertEqual(lap_told(FLIP, HEARD, (((0, 0),), ((0, 0), (0, 0)))), (((),), (("on",), ())))
        self.assertEqual(lap_told(ENDED, HEARD, ((), ((),))), ((), (("on",),)))
        for lap, error in (
            (((), ()), Unfit), (((0, 0),) * 2, ValueError), ((((0, 0),), ((0, 0),)), Unfit), (((), ((0, 0),)), Unfit),
            ((((0, 1),), ()), NotReady), (((), ((0, 0), (5, 0))), NotReady), ((((0, 0),), ((), (0, 0))), NotReady),
            ((((0, -1),), ((0, 0),)), NotReady), (((), ((0, 0, 0, 0),)), NotReady), (((), ((), )), NotReady),
        ):
            if error is not ValueError:
                self.assert_raises(error, {}, lap_told, FLIP, HEARD, lap)
                self.assert_raises(error, {}, lap_told, system=listed(FLIP), heard=[], lap=listed(lap))


class Verdicts(Case):
    def test_verdicts_come_with_papers(self):
        kept = 0
        for maker, system, heard, formula in samples(152, 150):
            goings = Goings(system)
            told = keeps(system, heard, formula)
            kept += told
            lap = against(system, heard, formula)
            self.assertIs(lap is None, told)
            if lap is not None:
                self.assertFalse(is_true(formula, plain_told(goings, heard, lap)))
                self.assertIs(is_against(system, heard, formula, lap), True)
                self.assertIs(is_witness(system, heard, formula, lap), False)
            shown = witness(system, heard, formula)
            self.assertIs(shown is None, keeps(system, heard, ("not", formula)))
            if shown is not None:
                self.assertTrue(is_true(formula, plain_told(goings, heard, shown)))
                self.assertIs(is_witness(system, heard, formula, shown), True)
            paper = verdict(system, heard, formula)
            self.assertEqual(paper[0], "kept" if told else "against")
            self.assertIs(is_verdict(system, heard, formula, paper), True)
            machine = one_set(machine_for(opposite(formula)))
            if told:
                self.assertEqual(paper, ("kept", PlainPairs(system, heard, machine).ranks()))
                more = tuple([(*row[:2], row[2] + 5) for row in paper[1]])
                self.assertIs(is_verdict(system, heard, formula, ("kept", more)), True)
            else:
                self.assertFalse(is_true(formula, plain_told(goings, heard, paper[1:])))
                self.assertTrue(PlainPairs(system, heard, machine).has_circle())
            for lap in some_laps(maker, goings, 4):
                there = is_true(formula, plain_told(goings, heard, lap))
                self.assertTrue(there or not told)
                self.assertIs(is_against(system, heard, formula, lap), not there)
                self.assertIs(is_witness(system, heard, formula, lap), there)
                self.assertIs(is_verdict(system, heard, formula, ("against", *lap)), not there)
        self.assertTrue(30 < kept < 120, kept)

    def test_kept_of(self):
        for maker, system, heard, formula in samples(153, 40):
            rows = [formula] + [maker.formula("pq", 2) for _ in range(maker.random.randint(0, 5))]
            wanted = tuple([at for at, row in enumerate(rows) if keeps(system, heard, row)])
            self.assertEqual(kept_of(system, heard, rows), wanted)
        self.assertEqual(kept_of(FLIP, HEARD, ()), ())

    def test_systems_at_their_end(self):
        self.assertEqual(kept_of(ENDED, HEARD, (ON, ("always", ON), ("not", ON), ("next", ("next", ON)))), (0, 1, 3))
        for lap in (witness(ENDED, HEARD, ON), against(ENDED, HEARD, ("ever", ("not", ON)))):
            self.assertEqual(set(lap[0] + lap[1]), {()})
            self.assertIs(is_lap(ENDED, lap), True)
        self.assertEqual([len(keeping_states(ENDED, HEARD, formula)) for formula in (ON, ("not", ON))], [1, 0])

    def test_what_is_no_verdict(self):
        lap = ((), ((0, 0), (0, 0)))
        self.assertIs(is_verdict(FLIP, HEARD, ON, ("against", *lap)), True)
        for thing in JUNK + (
            lap, ("against", lap), ("kept", *lap), ["against", *lap], ("against", *lap, ()), ("kept", ()), ("kept",), ("against",),
            ("against", (), ((0, 0),)), ("against", [], ((0, 0), (0, 0))), (None, *lap), ("kept", None),
        ):
            self.assertIs(is_verdict(FLIP, HEARD, ON, thing), False, thing)
            self.assertIs(is_against(FLIP, HEARD, ("not", ON), thing), False)
            if thing != lap:
                self.assertIs(is_against(FLIP, HEARD, ON, thing), False)
                self.assertIs(is_witness(FLIP, HEARD, ("true",), thing), False)
        good = verdict(FLIP, HEARD, ("ever", ON))
        machine = one_set(machine_for(opposite(("ever", ON))))
        self.assertEqual(good, ("kept", ranks(FLIP, HEARD, machine)))
        for thing in changed_things(good):
            wanted = type(thing) is tuple and len(thing) == 2 and thing[0] == "kept" and is_ranks(FLIP, HEARD, machine, thing[1])
            self.assertIs(is_verdict(FLIP, HEARD, ("ever", ON), thing), wanted)

    def test_states_from_which_it_is_kept(self):
        for _, system, heard, formula in samples(154, 60, 12):
            machine = machine_for(opposite(formula))
            goings = Goings(system)
            wanted = []
            for state in goings.all_states():
                pairs = PlainPairs(system, heard, machine)
                starts = runs_from(pairs, state)
                if not entries_of_rounds(starts, pairs.leads, lambda pair: pair[1], machine[3])[0]:
                    wanted.append(state)
            self.assertEqual(keeping_states(system, heard, formula), sorted(wanted))
            self.assertIs(begin(system) in wanted, keeps(system, heard, formula))

    def test_what_it_hangs_on(self):
        some = 0
        for _, system, heard, formula in samples(155, 80, 12):
            told = keeps(system, heard, formula)
            wanted = []
            for word in "pq":
                turned = [
                    keeps(system, tuple([(name, always if name == word else test) for name, test in heard]), formula)
                    for always in (NEVER, EVER)
                ]
                if turned != [told, told] and f"'{word}'" in repr(formula):
                    wanted.append(word)
            some += len(wanted)
            self.assertEqual(hangs_on(system, heard, formula), tuple(wanted))
        self.assertGreater(some, 20)
        self.assertEqual(hangs_on(FLIP, HEARD, ("true",)), ())
        self.assertEqual(hangs_on(FLIP, HEARD, ON), ("on",))

    def test_when_words_are_told(self):
        found = []
        for _, system, heard, _ in samples(156, 200, 15):
            goings = Goings(system)
            for word, test in heard:
                layer, far, at = [goings.begin()], {}, 0
                while layer:
                    far.update({state: at for state in layer})
                    layer = sorted({goings.after(state, turn) for state in layer for turn in goings.ready(state)} - set(far))
                    at += 1
                wanted = min([far[state] for state in far if goings.test(state, test)], default=None)
                self.assertEqual(soonest_told(system, heard, word), wanted)
                latest = self.plain_latest(goings, test, goings.begin(), 0, len(far), {})
                self.assertEqual(latest_told(system, heard, word), latest)
                found.append((wanted, latest))
        self.assertGreater(len([row for row in found if row[1] not in (None, 0)]), 3)
        self.assertGreater(len([row for row in found if row[0] is not None and row[1] is None]), 3)

    def plain_latest(self, goings, test, state, at, limit, known):
        """How many TURNS go ahead at the most; None if there are more than limit on some way."""
        if (state, at) not in known:
            if goings.test(state, test):
                known[state, at] = at
            elif at > limit:
                known[state, at] = None
            else:
                there = [goings.after(state, turn) for turn in goings.ready(state)]
                found = [self.plain_latest(goings, test, goal, at + 1, limit, known) for goal in there]
                known[state, at] = None if None in found else max(found)
        return known[state, at]

    def test_words_that_are_not_heard(self):
        for formula, word in (
            (("word", "off"), "off"), (("until", ("word", "off"), ("word", "of")), "off"), (("and", ON, ("or", X, ("word", "off"))), "x"),
            (("unless", ("not", ("next", X)), ("word", "off")), "x"), (("and", ("word", "z"), ("word", "b")), "z"),
        ):
            for call in (keeps, against, witness, keeping_states, hangs_on, verdict):
                self.assert_raises(NoWord, {"name": word}, call, FLIP, HEARD, formula)
                self.assert_raises(NoWord, {"name": word}, call, system=FLIP, heard=listed(HEARD), formula=listed(formula))
            for call in (is_against, is_witness, is_verdict):
                for thing in (None, ((), ((0, 0), (0, 0))), ("kept", ()), []):
                    self.assert_raises(NoWord, {"name": word}, call, FLIP, HEARD, formula, thing)
        self.assert_raises(NoWord, {"name": "b"}, kept_of, FLIP, HEARD, (ON, ("and", ON, ("word", "b")), ("word", "a")))
        for call in (soonest_told, latest_told):
            for word in ("off", "", "on ", "true"):
                self.assert_raises(NoWord, {"name": word}, call, FLIP, HEARD, word)
            self.assert_raises(NoWord, {"name": "on"}, call, FLIP, (), "on")


class LargeVerdicts(Case):
    def test_as_large_as_the_bounds_allow(self):
        system = free_clock((9, 9, 4))
        heard = tuple([(name, ("same", ("cell", name), ("number", 0))) for name in "xyz"])
        for text, kept in (
            ("always ever x", False), ("ever always [ always z until always always x ]", False), ("always [ x unless not x ]", True),
            ("x until ever [ y and next z ]", False), ("always next next next [ x or not x ]", True), ("always [ x or ever not x ]", True),
        ):
            formula = formula_from(text)
            self.assertIs(keeps(system, heard, formula), kept, text)
            self.assertIs(is_verdict(system, heard, formula, verdict(system, heard, formula)), True)
            self.assertEqual(len(keeping_states(system, heard, formula)), 500 if kept else 0)
            self.assertLessEqual(len(hangs_on(system, heard, formula)), 3)
            self.assertIs(witness(system, heard, formula) is None, False)
        system = ring(7, (9, 6))
        heard = (("m", ("same", ("cell", "m"), ("number", 3))), ("n", ("same", ("cell", "n"), ("number", 5))))
        self.assertEqual(kept_of(system, heard, [formula_from(text) for text in (
            "always ever [ m and n ]", "ever always m", "always [ m until not m ]", "always ever m and always ever n",
        )]), (0, 2, 3))
        self.assertEqual((soonest_told(system, heard, "n"), latest_told(system, heard, "n")), (30, 30))


if __name__ == "__main__":
    unittest.main()
