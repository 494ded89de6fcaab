"""The names, the arguments and the files of the interface."""

import ast
import importlib
import inspect
import pathlib
import unittest

FOLDER = pathlib.Path(__file__).resolve().parent.parent / "runclaims"
INTERFACE = {
    "systems": """
        is_system(thing), is_value(system, thing), is_test(system, thing),
        is_heard(system, thing), cell_names(system), queue_names(system), part_names(system),
        cell_row(system, cell), queue_row(system, queue), block_of(system, part),
        labels_of(system, part), fitted(number, top), deeds_of(system, part), value_cells(one),
        test_cells(test), test_queues(test), test_labels(test), reads(system, part),
        lets(system, part), puts_into(system, part), gets_from(system, part),
        asks_labels(system, part), shared_cells(system), spare_names(system),
        partners(system, part), with_cell(system, name, top, number),
        with_queue(system, name, room, top), with_part(system, name, block),
        with_block(system, part, block), is_block(system, part, thing),
        with_first(system, cell, number), with_room(system, queue, room),
        without(system, name), renamed(system, old, new),
        relabelled(system, part, label, new), beside(system, other)
    """,
    "language": """
        pieces(text), value_from(text), test_from(text), block_from(text), system_from(text)
    """,
    "texts": "value_text(value), test_text(test), block_text(block), system_text(system)",
    "tables": """
        steps_of(system, part), table(system), end_of(system, part),
        how_many_places(system, part), step_of(system, part, number),
        steps_at(system, part, place), label_place(system, part, label),
        labels_at(system, part, place), standing(system, places), held_places(system, part),
        path_of(system, part, number), step_with(system, part, path),
        deed_with(system, part, path), places_behind(system, part, place),
        places_led_to(system, part, place), lost_steps(system, part),
        entries(system, part, place), goes_round(system, part),
        step_reads(system, part, number), step_lets(system, part, number),
        step_queues(system, part, number), step_asks(system, part, number),
        step_labels(system, part, number), is_alike(system, part, name)
    """,
    "states": """
        begin(system), is_state(system, thing), number_at(system, state, value),
        is_so(system, state, test), place_at(system, state, part),
        held_in(system, state, cell), lying(system, state, queue), holder_of(system, state),
        can_take(system, state, part), shut_steps(system, state, part),
        ready(system, state), ready_for(system, state, part), after(system, state, turn),
        states(system, turns), last_state(system, turns), is_turns(system, thing),
        is_still(system, state), ended_parts(system, state), shut_parts(system, state),
        taking_part(system, turn), breaks(system, state, turn), broken(system, turns),
        told_at(system, heard, state), told_along(system, heard, turns),
        do_commute(system, state, one, other), swapped(system, turns, number),
        led_by(system, row, many)
    """,
    "formulas": """
        is_formula(thing), pieces_in(formula), words_of(formula), size_of(formula),
        has_next(formula), places_true(formula, loop), is_true(formula, loop),
        true_at(formula, loop, number), opposite(formula), inward(formula), core(formula),
        left(formula, told), left_behind(formula, row), formula_text(formula),
        formula_from(text)
    """,
    "loops": """
        is_loop(thing), told_there(loop, number), run_from(loop, number), least_loop(loop),
        are_alike(loop, other), without_repeats(loop), alike_but_repeats(loop, other),
        with_repeats(loop, numbers)
    """,
    "grounds": """
        grounds(formula, loop), is_grounds(formula, loop, thing), telling(loop, other),
        telling_still(loop, other), is_telling(loop, other, thing),
        is_telling_still(loop, other, thing), true_loops(formula, words, front, circle),
        how_many_true(formula, words, front, circle), first_true(formula, words, many)
    """,
    "machines": """
        is_machine(thing), words_read(machine), moved_to(machine, standing, told),
        standings_behind(machine, rows), path_along(machine, loop), takes(machine, loop),
        is_path_along(machine, loop, thing), takes_any(machine), some_loop(machine),
        fewest_standings(machine), numbers_for(machine), is_numbers_for(machine, thing),
        live_standings(machine), lean(machine)
    """,
    "makers": """
        one_set(machine), both_machine(one, other), either_machine(one, other),
        machine_for(formula), takes_only(machine, formula), only_against(machine, formula),
        loop_for(formula), can_be(formula), is_sure(formula), implies(one, other),
        mean_same(one, other), loop_apart(one, other), is_loop_apart(one, other, thing)
    """,
    "ranks": """
        come_pairs(system, heard, machine), led_from(system, heard, machine, state, standing),
        full_circle(system, heard, machine), is_full_circle(system, heard, machine, thing),
        ranks(system, heard, machine), is_ranks(system, heard, machine, thing),
        fewest_pairs(system, heard, machine)
    """,
    "verdicts": """
        is_lap(system, thing), lap_told(system, heard, lap), keeps(system, heard, formula),
        against(system, heard, formula), is_against(system, heard, formula, thing),
        witness(system, heard, formula), is_witness(system, heard, formula, thing),
        kept_of(system, heard, formulas), keeping_states(system, heard, formula),
        hangs_on(system, heard, formula), soonest_told(system, heard, word), latest_told(system,
        heard, word), verdict(system, heard, formula), is_verdict(system, heard, formula, thing)
    """,
    "fair": """
        ready_parts(system, state), waiting_parts(system, lap, kinds), is_fair(system, kinds,
        thing), left_out(system, lap), keeps_fairly(system, heard, formula, kinds),
        fair_against(system, heard, formula, kinds), is_fair_against(system, heard, formula,
        kinds, thing), falls(system, heard, machine, kinds), is_falls(system, heard, machine,
        kinds, thing), least_kinds(system, heard, formula), must_be_fair(system, heard,
        formula), weak_is_enough(system, heard, formula, kinds), can_be_left_out(system, kinds),
        leaving_out(system, kinds, some), is_leaving_out(system, kinds, some, thing),
        fair_on(system, state, kinds), is_fair_on(system, state, kinds, thing)
    """,
    "fewer": """
        touched(system, part, number), heard_touched(heard), shared(system, heard, part),
        apart_places(system, heard, part), may_go_alone(system, heard, state), is_choice(system,
        heard, thing), is_good(system, heard, thing), alone_lap(system, heard, choice),
        is_alone_lap(system, heard, choice, thing), good_choice(system, heard),
        fewer_turns(system, choice, state), fewer_states(system, choice), how_many(system,
        choice)
    """,
    "fewerlaps": """
        fewer_against(system, heard, formula, choice), keeps_by_fewer(system, heard, formula,
        choice), is_fewer_against(system, heard, formula, choice, thing), fewer_like(system,
        heard, choice, lap), is_fewer_like(system, heard, choice, lap, thing)
    """,
    "sames": """
        rows_told(system, heard, number), how_many_told(system, heard, number), is_row(system,
        heard, thing), row_apart(one, ones, other, others), tell_alike(one, ones, other,
        others), formula_apart(one, ones, other, others), keeps_soon(system, heard, formula),
        is_formula_apart(one, ones, other, others, thing), squeezed(row)
    """,
    "pairings": """
        is_step_formula(thing), is_plain(thing), steps_deep(formula), is_step_true(system,
        heard, state, formula), greatest_pairing(one, ones, other, others), can_pair(one, ones,
        other, others), greatest_following(one, ones, other, others), follows(one, ones, other,
        others), is_pairing(one, ones, other, others, thing), is_following(one, ones, other,
        others, thing), step_apart(one, ones, other, others), rounds_apart(one, ones, other,
        others), is_step_apart(one, ones, other, others, thing), is_plain_apart(one, ones,
        other, others, thing), plain_apart(one, ones, other, others), lots(system, heard),
        least_model(system, heard), in_one_lot(system, heard, state, later)
    """,
    "edits": """
        edited(system, edit), undone_by(system, edit), edits_commute(system, edit, later),
        can_edit(system, thing), paths_of(system, part), never_full(system),
        never_turned(system), squeezed_apart(system, other, heard), squeezed_alike(system,
        other, heard), is_squeezed_apart(system, other, heard, thing)
    """,
    "reach": """
        all_states(system), how_many_states(system), is_come_to(system, thing),
        turns_in(system), depth(system, state), layers(system), shortest_row(system, state),
        is_row_to(system, state, thing), how_many_rows(system, state, number),
        stuck_states(system), ended_states(system), stuck_row(system), who_waits(system, state),
        surely_rests(system), longest_row(system), broken_checks(system), broken_row(system,
        part, step), is_broken_row(system, part, step, thing), never_taken(system),
        never_stood(system), never_both(system, part, other), held_ever(system, cell),
        most_in(system, queue), always_so(system, test), row_against(system, test),
        fence(system, test), is_fence(system, test, thing), can_still(system, test),
        lost_states(system, test), lost_row(system, test), soonest(system, state, test)
    """,
    "watch": """
        changed(system, turns, number, turn), shortest_round(system, turns), replayed(system,
        heard, row), is_replayed(system, heard, row, thing)
    """,
    "claims": """
        is_claim(system, thing), is_hold(system, thing), stands(system, claim),
        paper_for(system, claim), paper_against(system, claim), is_paper_for(system, claim,
        thing), is_paper_against(system, claim, thing)
    """,
    "board": "",
    "report": """
        claim_text(claim), claim_from(text), report(system, claims), told_verdicts(system,
        text), is_report(system, claims, thing)
    """,
    "desk": """
        edit_text(edit), edit_from(text), turn_text(system, turn), turn_from(system, text),
        is_request(thing), replies(text)
    """,
}
# For each class its arguments, its properties and its methods.
CLASSES = {
    "watch.Watch": (("system",), ("system", "taken", "here", "ahead"), """
        take(turn), go(turns), back(), again(), to(number), twin(), ready(), states(),
        told(heard), met(), lap(), standing(part), __len__(), __eq__(other)
    """),
    "board.Board": ((), ("names", "deeds"), """
        put(name, system), drop(name), rename(name, new), edit(name, edit), turn(name, turn),
        keep(name, claim), free(name, claim), undo(), twin(), turns(name), state(name),
        claims(name), standing(name), lost(name), sure(name), spoilt_by(name, edit),
        mended_by(name, edit), __len__(), __contains__(name), __getitem__(name), __eq__(other),
        __iter__()
    """),
}
# Beside what the interface lists, these files hold what others of the package need.
SHARED = {"loops": ["place_of_run", "squeezed_sets"], "machines": ["loop_of"], "ranks": ["least_ranks", "are_ranks"]}


def calls_of(text):
    """The pairs of a name and the tuple of the names of its arguments."""
    row = ast.parse(f"[{text.strip()}]", mode="eval").body.elts
    return [(call.func.id, tuple([argument.id for argument in call.args])) for call in row]


class Interface(unittest.TestCase):
    def test_each_function_stands_in_its_file_with_its_arguments(self):
        for module, text in INTERFACE.items():
            home = importlib.import_module(f"runclaims.{module}")
            tree = ast.parse((FOLDER / f"{module}.py").read_text())
            made = [node.name for node in tree.body if isinstance(node, ast.FunctionDef)]
            for name, arguments in calls_of(text):
                with self.subTest(f"{module}.{name}"):
                    self.assertIn(name, made)
                    told = inspect.signature(getattr(home, name)).parameters
                    self.assertEqual(tuple(told), arguments)
                    for parameter in told.values():
                        self.assertIs(parameter.default, parameter.empty)
                        self.assertEqual(parameter.kind, parameter.POSITIONAL_OR_KEYWORD)

    def test_each_class_stands_in_its_file_with_all_that_it_has(self):
        for place, (given, properties, methods) in CLASSES.items():
            module, name = place.split(".")
            home = importlib.import_module(f"runclaims.{module}")
            tree = ast.parse((FOLDER / f"{module}.py").read_text())
            own = [node for node in tree.body if isinstance(node, ast.ClassDef)]
            self.assertEqual([node.name for node in own], [name])
            made = [node.name for node in own[0].body if isinstance(node, ast.FunctionDef)]
            thing = getattr(home, name)
            self.assertEqual(tuple(inspect.signature(thing).parameters), given)
            for one in properties:
                self.assertIn(one, made)
                self.assertIsInstance(vars(thing)[one], property)
                self.assertIsNone(vars(thing)[one].fset)
            for one, arguments in calls_of(methods):
                with self.subTest(f"{name}.{one}"):
                    self.assertIn(one, made)
                    told = inspect.signature(vars(thing)[one]).parameters
                    self.assertEqual(tuple(told)[1:], arguments)
            listed = list(properties) + [one for one, _ in calls_of(methods)] + ["__init__"]
            self.assertEqual([one for one in made if one not in listed and not one.startswith("_")], [])

    def test_other_functions_of_these_files_are_not_open(self):
        for module in INTERFACE:
            tree = ast.parse((FOLDER / f"{module}.py").read_text())
            made = [node.name for node in tree.body if isinstance(node, ast.FunctionDef)]
            listed = [name for name, _ in calls_of(INTERFACE[module])] + SHARED.get(module, [])
            for name in made:
                self.assertTrue(name.startswith("_") or name in listed, name)

    def test_the_package_is_one_folder_with_an_init(self):
        self.assertTrue((FOLDER / "__init__.py").is_file())


if __name__ == "__main__":
    unittest.main()
