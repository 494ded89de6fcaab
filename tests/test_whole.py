"""Guarantees that join several files, tried on systems made at random."""

import unittest

from goings import Goings
from helper import Case, Maker
from laps import some_laps
from likes import near_system
from papers import some_claims
from runclaims.board import Board
from runclaims.claims import paper_against, paper_for, stands
from runclaims.desk import edit_from, edit_text, replies, turn_from, turn_text
from runclaims.edits import edited, paths_of, squeezed_alike
from runclaims.fair import fair_against, is_fair, keeps_fairly, left_out, ready_parts
from runclaims.fewer import good_choice
from runclaims.fewerlaps import fewer_like, keeps_by_fewer
from runclaims.formulas import formula_from, formula_text, has_next, is_true, opposite
from runclaims.grounds import grounds
from runclaims.language import system_from
from runclaims.loops import alike_but_repeats
from runclaims.makers import machine_for, one_set, takes_only
from runclaims.machines import numbers_for, takes
from runclaims.pairings import can_pair, least_model
from runclaims.ranks import full_circle, ranks
from runclaims.reach import all_states, always_so, can_still, fence, lost_states, row_against, shortest_row, stuck_states
from runclaims.report import claim_from, claim_text, is_report, report, told_verdicts
from runclaims.sames import is_row, squeezed, tell_alike
from runclaims.states import after, begin, do_commute, holder_of, is_state, ready, states, told_along
from runclaims.tables import deed_with, step_asks, step_lets, step_queues, step_reads, steps_of, table
from runclaims.texts import system_text
from runclaims.verdicts import is_lap, keeps, lap_told, verdict
from runclaims.watch import Watch, is_replayed, replayed


def samples(seed, many, most=12):
    maker = Maker(seed)
    for number in range(many):
        if number % 3 == 0:
            system = maker.looping(most, 2)
        else:
            system = maker.busy(most) if number % 3 == 1 else maker.small(most, 2, parts=maker.pick(1, 2, 3))
        yield maker, system, maker.heard(system, "pq")


def still_formula(maker):
    while True:
        formula = maker.formula("pq", 3)
        if not has_next(formula):
            return formula


class States(Case):
    def test_some_turn_is_ready_and_holders_go_on(self):
        held = 0
        for _, system, _ in samples(281, 120, 20):
            goings = Goings(system)
            steps = table(system)
            for state in all_states(system):
                self.assertTrue(is_state(system, state))
                self.assertEqual(ready(system, state), goings.ready(state))
                self.assertNotEqual(ready(system, state), ())
                for turn in ready(system, state):
                    behind = after(system, state, turn)
                    self.assertEqual(behind, goings.after(state, turn))
                    if behind[3] != -1:
                        held += 1
                        pairs = [turn[:2], turn[2:]][:len(turn) // 2]
                        self.assertTrue(any([part == behind[3] and steps[part][step][3] for part, step in pairs]))
                        self.assertTrue(all([behind[3] in one[::2] for one in ready(system, behind)]))
                        self.assertEqual(holder_of(system, behind), system[2][behind[3]][0])
        self.assertGreater(held, 30)

    def test_turns_that_touch_nothing_in_common_commute(self):
        many = 0
        for _, system, _ in samples(282, 120, 20):
            for state in all_states(system):
                turns = [turn for turn in ready(system, state) if turn != () and self.is_simple(system, turn)]
                for one in turns:
                    for other in turns:
                        if not set(one[::2]) & set(other[::2]) and state[3] == -1 and self.are_apart(system, one, other):
                            many += 1
                            self.assertTrue(do_commute(system, state, one, other), (system, state, one, other))
        self.assertGreater(many, 200)

    def steps(self, system, turn):
        pairs = [turn[:2], turn[2:]][:len(turn) // 2]
        return [(system[2][part][0], step) for part, step in pairs]

    def is_simple(self, system, turn):
        rows = [steps_of(system, part)[step] for part, step in self.steps(system, turn)]
        return not any([row[1] == ("else",) or row[3] for row in rows])

    def are_apart(self, system, one, other):
        """Whether neither changes what the other names, or takes part a part that it names."""
        for first, second in ((one, other), (other, one)):
            changed = {part for part, _ in self.steps(system, first)}
            for part, step in self.steps(system, first):
                changed.update(step_lets(system, part, step))
                if steps_of(system, part)[step][1][0] in ("put", "get"):
                    changed.update(step_queues(system, part, step))
            for part, step in self.steps(system, second):
                named = step_reads(system, part, step) + step_lets(system, part, step) + step_queues(system, part, step)
                if changed & set(named + tuple([own for own, _ in step_asks(system, part, step)])):
                    return False
        return True


class Verdicts(Case):
    def test_papers_of_all_kinds_agree(self):
        seen = set()
        for maker, system, heard in samples(283, 150):
            formula = maker.pick(maker.formula("pq", 3), ("always", ("ever", ("word", "p"))), ("ever", ("word", "q")))
            kept = keeps(system, heard, formula)
            seen.add(kept)
            none = ("none",) * len(system[2])
            machine = one_set(machine_for(opposite(formula)))
            self.assertEqual(verdict(system, heard, formula)[0], "kept" if kept else "against")
            self.assertIs(full_circle(system, heard, machine) is None, kept)
            self.assertIs(ranks(system, heard, machine) is not None, kept)
            self.assertIs(keeps_fairly(system, heard, formula, none), kept)
            claim = ("keeps", heard, formula, none)
            self.assertIs(stands(system, claim), kept)
            self.assertIs(paper_for(system, claim) is not None, kept)
            self.assertIs(paper_against(system, claim) is None, kept)
            self.assertEqual(told_verdicts(system, report(system, (claim,))), ((claim, "stands" if kept else "falls"),))
            for lap in some_laps(maker, Goings(system), 3):
                loop = lap_told(system, heard, lap)
                self.assertTrue(is_lap(system, lap))
                self.assertTrue(is_true(formula, loop) or not kept)
                self.assertIs(grounds(formula, loop) is not None, is_true(formula, loop))
                self.assertIs(takes(machine, loop), not is_true(formula, loop))
            self.assertIs(takes_only(machine, ("not", formula)), True)
            self.assertTrue(numbers_for(machine) is None or kept)
        self.assertEqual(seen, {True, False})

    def test_fewer_orders_and_fair_ones(self):
        fewer = 0
        for maker, system, heard in samples(284, 100):
            choice, formula = good_choice(system, heard), still_formula(maker)
            fewer += choice != ()
            self.assertIs(keeps_by_fewer(system, heard, formula, choice), keeps(system, heard, formula))
            strong = ("strong",) * len(system[2])
            for lap in some_laps(maker, Goings(system), 2):
                like = fewer_like(system, heard, choice, lap)
                self.assertTrue(alike_but_repeats(lap_told(system, heard, lap), lap_told(system, heard, like)))
                if is_fair(system, strong, lap):
                    along = states(system, lap[0] + lap[1])[len(lap[0]):]
                    waiting = {part for state in along for part in ready_parts(system, state)}
                    self.assertEqual(set(left_out(system, lap)), {row[0] for row in system[2]} - waiting)
            self.assertTrue(not keeps(system, heard, formula) or fair_against(system, heard, formula, strong) is None)
        self.assertGreater(fewer, 15)

    def test_claims_and_what_is_come_to(self):
        for maker, system, heard in samples(285, 80):
            test = heard[0][1]
            self.assertIs(stands(system, ("always", test)), always_so(system, test))
            self.assertIs(stands(system, ("can", test)), row_against(system, ("not", test)) is not None)
            self.assertIs(stands(system, ("back", test)), can_still(system, test))
            self.assertIs(stands(system, ("moves",)), stuck_states(system) == [])
            self.assertEqual(fence(system, test) is None, not always_so(system, test))
            self.assertIs(keeps(system, heard, ("always", ("word", "p"))), always_so(system, test))
            self.assertIs(keeps(system, heard, ("ever", ("always", ("not", ("word", "p"))))) and lost_states(system, test) == [], False)


class Sameness(Case):
    def test_pairings_formulas_and_squeezed_runs(self):
        seen = set()
        for maker, system, heard in samples(286, 120, 10):
            other = near_system(maker, system, 12)
            try:
                told_along(other, heard, ())
            except KeyError:
                continue
            paired, alike = can_pair(system, heard, other, heard), tell_alike(system, heard, other, heard)
            slowly = squeezed_alike(system, other, heard)
            seen.add((paired, alike, slowly))
            self.assertTrue(alike or not paired)
            self.assertTrue(slowly or not alike)
            self.assertTrue(not paired or len(least_model(system, heard)[1]) == len(least_model(other, heard)[1]))
            for formula in (maker.formula("pq", 3), still_formula(maker)):
                if alike or slowly and not has_next(formula):
                    self.assertIs(keeps(system, heard, formula), keeps(other, heard, formula))
        self.assertGreater(len(seen), 2)

    def test_what_is_told_along_runs_is_told_again(self):
        for maker, system, heard in samples(287, 60):
            watch = Watch(system)
            for _ in range(6):
                watch.take(maker.pick(*watch.ready()))
            row = watch.told(heard)
            self.assertTrue(is_row(system, heard, row))
            self.assertIs(is_replayed(system, heard, row, watch.taken), True)
            self.assertLessEqual(replayed(system, heard, row), watch.taken)
            self.assertEqual(squeezed(row), squeezed(squeezed(row)))
            self.assertEqual(watch.states(), states(system, watch.taken))
            self.assertTrue(watch.lap() is None or is_lap(system, watch.lap()))
            self.assertLessEqual(len(shortest_row(system, watch.here)), 6)
            while len(watch):
                watch.back()
            self.assertEqual((watch.here, len(watch.ahead)), (begin(system), 6))


class Texts(Case):
    def test_what_is_written_is_read_again(self):
        for maker, system, heard in samples(288, 60):
            self.assertEqual(system_from(system_text(system)), system)
            formula = maker.formula("pq", 4)
            self.assertEqual(formula_from(formula_text(formula)), formula)
            for claim in some_claims(maker, system, 4):
                self.assertEqual(claim_from(claim_text(claim)), claim)
            for turn in ready(system, begin(system)):
                self.assertEqual(turn_from(system, turn_text(system, turn)), turn)
            for part, _ in system[2]:
                for path in paths_of(system, part):
                    edit = ("replace", part, path, deed_with(system, part, path))
                    self.assertEqual(edit_from(edit_text(edit)), edit)
                    self.assertEqual(edited(system, edit), system)

    def test_a_desk_tells_what_a_board_tells(self):
        for maker, system, _ in samples(289, 40):
            claims = sorted(set(some_claims(maker, system, 4)))
            board = Board()
            board.put("s", system)
            lines = ["put s " + system_text(system).replace("\n", "\n ")]
            for claim in claims:
                board.keep("s", claim)
                lines.append("keep s " + claim_text(claim))
            for _ in range(4):
                turn = maker.pick(*ready(system, board.state("s")))
                board.turn("s", turn)
                lines.append("turn s " + turn_text(system, turn))
            told = replies("\n".join(lines + ["standing s", "sure s", "report s", "deeds"]))
            self.assertEqual(told[:len(lines)], ["done"] * len(lines))
            self.assertEqual(told[-1], str(board.deeds))
            for text, kept in zip(told[-4:-2], (board.standing("s"), board.sure("s"))):
                self.assertEqual([] if text == "-" else [claim_from(row) for row in text.split("\n")], list(kept))
            self.assertIs(is_report(system, claims, told[-2]), True)
            self.assertEqual([claim for claim, word in told_verdicts(system, told[-2]) if word == "stands"], list(board.standing("s")))


if __name__ == "__main__":
    unittest.main()
