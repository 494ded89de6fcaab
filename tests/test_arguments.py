"""What holds for every function: lists for tuples, names of arguments, nothing changed."""

import copy
import importlib
import inspect
import itertools
import unittest

from helper import JUNK, LOW, ONE, OTHER, SAMPLE, SET_X, X, Y, changed_things, deep, listed
from runclaims.edits import edited
from test_interface import INTERFACE, calls_of

STATE = ((1, 2), (3, 2), ((1,),), 1)
TURNS = ((0, 0), (0, 1), (0, 3), (1, 1))
TEST = ("or", ("full", "q"), ("and", LOW, ("stands", "a", "top")))
HEARD = (("far", ("not", LOW)), ("wet", TEST))
WAIT = ("until", ("word", "a"), ("or", ("word", "b"), ("next", ("true",))))
LOOP = ((("a",), ("a", "b")), (("b",), ()))
BLOCK = (SET_X, ("pick", ((("pass",),), (("else",), ("once", (SET_X,))))))
START = ((0, 0), (0, 0), ((),), -1)
A, B = ("word", "a"), ("word", "b")
AHEAD, AGAIN = ("next", ("and", A, B)), ("always", ("ever", ("word", "p")))
LOOP_A = ("or", B, ("next", ("true",)))
GROUNDS = ((("next", ("true",)), 0, 0), (LOOP_A, 0, 0), (("true",), 1, 0), (WAIT, 0, 0))
SLOW = ((("a",), ("a",), ("a", "b")), (("b",), ()))
OFTEN = (2, (0,), ((0, (), ("p",), 0), (0, ("p",), (), 1), (1, (), ("p",), 0), (1, ("p",), (), 1)), ((1,),))
RARE = (2, (0,), ((0, (), (), 0), (0, ("p",), (), 1)), ((1,),))
P_LOOP = ((), (("p",), ()))
FREE = ((("n", 1, 0),), (), (("a", (("again", ((("let", "n", ("number", 0)),), (("let", "n", ONE),))),)),))
ON = (("p", ("same", ("cell", "n"), ONE)),)
BEGUN, LIT = ((0,), (0,), (), -1), ((0,), (1,), (), -1)
CIRCLE = (((BEGUN, 0), (LIT, 0)), ((LIT, 1),))
RANKS = ((BEGUN, 0, 2), (BEGUN, 1, 1), (LIT, 0, 2), (LIT, 1, 0))
LAP, SEEN, SURE = (((0, 0),), ((0, 0),)), ("ever", ("word", "p")), ("or", ("word", "p"), ("true",))
TWO = FREE[:2] + (FREE[2] + (("b", (("again", ((("pass",),),)),)),),)
TWO_BEGUN, TWO_LIT = ((0, 0), (0,), (), -1), ((0, 0), (1,), (), -1)
TWO_LAP, ROUND, LIT_ROW = ((), ((0, 0),)), ((), ((0, 1), (0, 1))), ((0, 0), (0, 1))
NOTHING, TRUTH = (0, (), (), ((),)), ("same", ONE, ONE)
CHOICE, ALONE, ALONE_LAP = ((TWO_LIT, "a"),), ((TWO_BEGUN, "b"),), ((), ((1, 0),))
FENCE = (TWO_BEGUN, TWO_LIT)
QUIET = ((("n", 1, 0),), (), (("a", (("let", "n", ONE),)), ("b", (("pass",), ("pass",)))))
FEW = ((TWO_BEGUN, "b"), (((0, 1), (0,), (), -1), "b"))
CHECKED = ((("n", 1, 0),), (), (("a", (("let", "n", ONE), ("check", ("less", ("cell", "n"), ONE)))),))
QUIET_LAP = (((0, 0), (1, 0), (1, 1)), ((),))
QUIET_FEW = (((1, 0), (1, 1), (0, 0)), ((),))
CLOCK = FREE[:2] + ((("b", (("again", ((("pass",),),)),)),),)
ROW, STEP = ((), ("p",), ()), ("some", ("and", ("word", "p"), ("not", ("word", "q"))))
BOTH = (FREE, ON, CLOCK, ON)
PAIRING, FOLLOWING = ((BEGUN, BEGUN), (LIT, LIT)), (((((0,), (0,), (), -1)), BEGUN),)
EDIT = ("insert", "a", (2, 0, 1), ("pass",))
ALIKE = edited(FREE, ("insert", "a", (0,), ("pass",)))
LIVES, BACK = ("keeps", ON, SEEN, ("strong", "none")), ("back", ("less", ("cell", "n"), ONE))
FAIR_LAP = ((), ((0, 0), (1, 0)))
FALLS, NUMBERS = ("keeps", ON, SEEN, ("weak", "weak")), ((TWO_BEGUN, 0), (TWO_LIT, 1))
TOLD = "keeps strong,none ever p; p is n == 1: falls\n  round\n  a 0\nkeeps weak,weak ever p; p is n == 1: falls\n  round\n  a 0\n  b 0"
CALLS = {
    "is_system": [(SAMPLE,), (listed(SAMPLE),)], "is_value": [(SAMPLE, X), (SAMPLE, list(X))],
    "is_test": [(SAMPLE, TEST), (SAMPLE, list(TEST))], "is_heard": [(SAMPLE, HEARD), (SAMPLE, list(HEARD))],
    "is_block": [(SAMPLE, "b", BLOCK), (SAMPLE, "a", list(BLOCK))], "fitted": [(-3, 4)],
    "cell_row": [(SAMPLE, "x")], "queue_row": [(SAMPLE, "q")], "value_cells": [(("sum", X, Y),)],
    "with_cell": [(SAMPLE, "c", 3, 2)], "with_queue": [(SAMPLE, "r", 3, 2)], "with_part": [(SAMPLE, "c", BLOCK)],
    "with_block": [(SAMPLE, "b", BLOCK), (SAMPLE, "b", ())], "with_first": [(SAMPLE, "x", 2)],
    "with_room": [(SAMPLE, "q", 3)], "without": [(SAMPLE, "b")], "renamed": [(SAMPLE, "x", "z"), (SAMPLE, "a", "z")],
    "relabelled": [(SAMPLE, "a", "top", "new")], "beside": [(SAMPLE, OTHER)],
    "pieces": [("a b==1",)], "value_from": [("x + 1",)], "test_from": [("x < 1 or not full q",)],
    "block_from": [("pick { pass | else ; x = 1 }",)], "system_from": [("cell c 1 = 0 part p { c = 1 }",)],
    "value_text": [(("sum", X, ("times", Y, ONE)),)], "block_text": [(BLOCK,)], "test_text": [(TEST,)],
    "step_of": [(SAMPLE, "a", 1)], "steps_at": [(SAMPLE, "a", 1)], "label_place": [(SAMPLE, "a", "top")],
    "labels_at": [(SAMPLE, "a", 1)], "standing": [(SAMPLE, (1, 2))], "path_of": [(SAMPLE, "b", 3)],
    "step_with": [(SAMPLE, "b", (0, 0, 1, 1))], "deed_with": [(SAMPLE, "b", (0, 0, 1))],
    "places_behind": [(SAMPLE, "a", 1)], "places_led_to": [(SAMPLE, "a", 1)], "entries": [(SAMPLE, "a", 1)],
    "is_alike": [(SAMPLE, "a", "b"), (SAMPLE, "a", "a")],
    "is_state": [(SAMPLE, STATE), (SAMPLE, list(STATE))], "number_at": [(SAMPLE, STATE, ("gap", Y, ("times", X, X)))],
    "is_so": [(SAMPLE, STATE, TEST)], "place_at": [(SAMPLE, STATE, "b")], "held_in": [(SAMPLE, STATE, "y")],
    "lying": [(SAMPLE, STATE, "q")], "can_take": [(SAMPLE, STATE, "b")], "shut_steps": [(SAMPLE, STATE, "a")],
    "ready_for": [(SAMPLE, STATE, "b")], "after": [(SAMPLE, START, (0, 0)), (SAMPLE, STATE, (1, 3))],
    "states": [(SAMPLE, TURNS)], "last_state": [(SAMPLE, TURNS)], "is_turns": [(SAMPLE, TURNS), (SAMPLE, list(TURNS))],
    "taking_part": [(SAMPLE, (0, 0)), (SAMPLE, (1, 0, 0, 0))], "breaks": [(SAMPLE, START, (0, 0))],
    "broken": [(SAMPLE, TURNS[:2])], "told_at": [(SAMPLE, HEARD, STATE)], "told_along": [(SAMPLE, HEARD, ((0, 0), (1, 1)))],
    "do_commute": [(SAMPLE, START, (0, 0), (1, 1))], "swapped": [(SAMPLE, ((0, 0), (1, 1)), 0)],
    "led_by": [(SAMPLE, ("b", "a"), 5)], "is_formula": [(WAIT,), (list(WAIT),)], "left": [(WAIT, ("a",))],
    "left_behind": [(WAIT, (("a",), ("a", "b")))], "formula_from": [("a until not b",)], "true_at": [(WAIT, LOOP, 9)],
    "is_loop": [(LOOP,), (list(LOOP),)], "told_there": [(LOOP, 9)], "run_from": [(LOOP, 5)],
    "are_alike": [(LOOP, LOOP)], "alike_but_repeats": [(LOOP, LOOP)], "with_repeats": [(LOOP, (1, 2, 3, 1))],
    "is_grounds": [(WAIT, LOOP, GROUNDS), (WAIT, LOOP, list(GROUNDS))], "telling": [(LOOP, SLOW)],
    "telling_still": [(LOOP, ((), (("a", "b"),)))], "is_telling": [(LOOP, SLOW, AHEAD), (LOOP, SLOW, list(AHEAD))],
    "is_telling_still": [(LOOP, ((), (("a", "b"),)), ("not", B)), (LOOP, ((), (("a", "b"),)), ["not", B])],
    "true_loops": [(WAIT, ("a", "b"), 1, 1)], "how_many_true": [(WAIT, ("a", "b"), 1, 1)],
    "first_true": [(("next", WAIT), ("a", "b"), 3)], "is_machine": [(OFTEN,), (list(OFTEN),)],
    "moved_to": [(OFTEN, 1, ("p", "q"))], "standings_behind": [(OFTEN, (("p",), ()))], "path_along": [(OFTEN, P_LOOP)],
    "takes": [(OFTEN, P_LOOP)], "is_path_along": [(OFTEN, P_LOOP, ((), (0, 1))), (OFTEN, P_LOOP, ((), [0, 1]))],
    "is_numbers_for": [(RARE, ((1, 0), (None, 0))), (RARE, ([1, 0], (None, 0)))],
    "both_machine": [(OFTEN, RARE), (OFTEN, OFTEN)], "either_machine": [(OFTEN, RARE)], "takes_only": [(OFTEN, AGAIN)],
    "only_against": [(OFTEN, AGAIN), (OFTEN, ("word", "p"))], "implies": [(WAIT, AGAIN)], "mean_same": [(WAIT, AGAIN)],
    "loop_apart": [(WAIT, AGAIN)], "is_loop_apart": [(B, WAIT, LOOP), (B, WAIT, list(LOOP))],
    "led_from": [(FREE, ON, OFTEN, BEGUN, 1)],
    "is_full_circle": [(FREE, ON, OFTEN, CIRCLE), (FREE, ON, OFTEN, list(CIRCLE))],
    "is_ranks": [(FREE, ON, RARE, RANKS), (FREE, ON, RARE, list(RANKS))],
    "is_lap": [(FREE, LAP), (FREE, list(LAP))], "lap_told": [(FREE, ON, LAP)],
    "is_against": [(FREE, ON, SEEN, LAP), (FREE, ON, SEEN, list(LAP))], "kept_of": [(FREE, ON, (SEEN, ("true",), SEEN))],
    "is_witness": [(FREE, ON, ("not", SEEN), LAP), (FREE, ON, ("not", SEEN), list(LAP))],
    "soonest_told": [(FREE, ON, "p")], "latest_told": [(FREE, ON, "p")],
    "is_verdict": [(FREE, ON, SEEN, ("against", *LAP)), (FREE, ON, SEEN, ["against", *LAP]), (FREE, ON, SURE, ("kept", ()))],
    "ready_parts": [(SAMPLE, START)], "waiting_parts": [(TWO, TWO_LAP, ("none", "strong"))],
    "is_fair": [(TWO, ("weak", "none"), TWO_LAP), (TWO, ("weak", "none"), list(TWO_LAP))], "left_out": [(TWO, TWO_LAP)],
    "keeps_fairly": [(TWO, ON, SEEN, ("weak", "strong"))], "fair_against": [(TWO, ON, SEEN, ("weak", "strong"))],
    "is_fair_against": [(TWO, ON, SEEN, ("none", "none"), TWO_LAP), (TWO, ON, SEEN, ("none", "none"), list(TWO_LAP))],
    "falls": [(TWO, ON, RARE, ("weak", "none")), (TWO, ON, OFTEN, ("weak", "none"))],
    "is_falls": [(TWO, ON, NOTHING, ("weak", "none"), ((), ())), (TWO, ON, NOTHING, ("weak", "none"), [(), ()])],
    "weak_is_enough": [(TWO, ON, SEEN, ("weak", "strong"))], "can_be_left_out": [(TWO, ("strong", "none"))],
    "leaving_out": [(TWO, ("strong", "none"), ("b",)), (TWO, ("strong", "none"), ())],
    "is_leaving_out": [(TWO, ("strong", "none"), ("b",), TWO_LAP), (TWO, ("strong", "none"), ("b",), list(TWO_LAP))],
    "fair_on": [(TWO, TWO_LIT, ("strong", "none"))],
    "is_fair_on": [(TWO, TWO_LIT, ("strong", "none"), ROUND), (TWO, TWO_LIT, ("strong", "none"), list(ROUND))],
    "touched": [(SAMPLE, "a", 3)], "heard_touched": [(HEARD,)], "shared": [(SAMPLE, HEARD, "a")],
    "apart_places": [(TWO, (), "b")], "may_go_alone": [(TWO, (), TWO_BEGUN)],
    "is_choice": [(TWO, (), CHOICE), (TWO, (), list(CHOICE))], "is_good": [(QUIET, (), FEW), (QUIET, (), list(FEW))],
    "alone_lap": [(TWO, (), CHOICE), (TWO, (), ALONE)],
    "is_alone_lap": [(TWO, (), ALONE, ALONE_LAP), (TWO, (), ALONE, list(ALONE_LAP))], "good_choice": [(TWO, ON), (TWO, ())],
    "fewer_turns": [(TWO, CHOICE, TWO_BEGUN)], "fewer_states": [(TWO, CHOICE)], "how_many": [(TWO, CHOICE)],
    "fewer_against": [(QUIET, ON, ("not", SEEN), FEW)], "keeps_by_fewer": [(QUIET, ON, SEEN, FEW)],
    "is_fewer_against": [(QUIET, ON, ("not", SEEN), FEW, QUIET_FEW), (QUIET, ON, ("not", SEEN), FEW, list(QUIET_FEW))],
    "fewer_like": [(QUIET, ON, FEW, QUIET_LAP)],
    "is_fewer_like": [(QUIET, ON, FEW, QUIET_LAP, QUIET_FEW), (QUIET, ON, FEW, QUIET_LAP, list(QUIET_FEW))],
    "rows_told": [(FREE, ON, 3)], "how_many_told": [(FREE, ON, 3)], "is_row": [(FREE, ON, ROW), (FREE, ON, list(ROW))],
    "is_formula_apart": [(*BOTH, ("not", ("next", ("word", "p")))), (*BOTH, ["not", ("next", ("word", "p"))])],
    "keeps_soon": [(FREE, ON, AHEAD)], "squeezed": [(ROW + ROW,)], "is_step_formula": [(STEP,), (list(STEP),)],
    "is_plain": [(STEP,), (list(STEP),)], "steps_deep": [(STEP,)], "is_step_true": [(FREE, ON, LIT, STEP)],
    "is_pairing": [(FREE, ON, FREE, ON, PAIRING), (FREE, ON, FREE, ON, list(PAIRING))],
    "is_following": [(CLOCK, ON, FREE, ON, FOLLOWING), (CLOCK, ON, FREE, ON, list(FOLLOWING))],
    "is_step_apart": [(*BOTH, STEP), (*BOTH, list(STEP))], "is_plain_apart": [(*BOTH, STEP), (*BOTH, list(STEP))],
    "lots": [(FREE, ON), (FREE, ())], "least_model": [(FREE, ON), (FREE, ())], "in_one_lot": [(FREE, (), BEGUN, LIT)],
    "edited": [(SAMPLE, EDIT)], "undone_by": [(SAMPLE, EDIT)], "edits_commute": [(SAMPLE, EDIT, ("drop", "b"))],
    "can_edit": [(SAMPLE, EDIT), (SAMPLE, list(EDIT))], "squeezed_alike": [(FREE, ALIKE, ON)],
    "squeezed_apart": [(FREE, ALIKE, ON), (FREE, CLOCK, ON)],
    "is_squeezed_apart": [(FREE, CLOCK, ON, (((), ("p",)), False)), (FREE, CLOCK, ON, [((), ("p",)), False])],
    "changed": [(SAMPLE, ((0, 0), (1, 1)), 1, (0, 1))], "shortest_round": [(FREE, ((0, 0), (0, 1)))],
    "replayed": [(FREE, ON, ROW)], "is_replayed": [(FREE, ON, ROW, ((0, 1), (0, 0))), (FREE, ON, ROW, [(0, 1), (0, 0)])],
    "is_claim": [(TWO, LIVES), (TWO, list(LIVES))], "is_hold": [(TWO, FENCE), (TWO, list(FENCE))],
    "stands": [(TWO, LIVES), (TWO, FALLS)], "paper_for": [(TWO, LIVES), (TWO, FALLS), (TWO, BACK)],
    "paper_against": [(TWO, LIVES), (TWO, FALLS), (TWO, BACK), (QUIET, BACK)],
    "is_paper_for": [(TWO, BACK, NUMBERS), (TWO, BACK, list(NUMBERS))],
    "is_paper_against": [(TWO, FALLS, FAIR_LAP), (TWO, FALLS, list(FAIR_LAP))], "claim_text": [(LIVES,), (BACK,)],
    "claim_from": [("keeps none,weak ever p; p is n == 1",)], "report": [(TWO, (LIVES, BACK, FALLS)), (TWO, ())],
    "told_verdicts": [(TWO, TOLD)], "is_report": [(TWO, (LIVES, FALLS), TOLD), (TWO, (), "")],
    "edit_text": [(EDIT,)], "edit_from": [("insert a 2.0.1 pass",)], "turn_text": [(SAMPLE, (0, 3, 1, 0))],
    "turn_from": [(SAMPLE, "a 3 to b 0")], "is_request": [("edit x drop y",)], "replies": [("names\nput a part b { }",)],
    "is_come_to": [(SAMPLE, START), (SAMPLE, list(START))], "is_row_to": [(TWO, TWO_LIT, LIT_ROW), (TWO, TWO_LIT, list(LIT_ROW))],
    "how_many_rows": [(TWO, TWO_BEGUN, 3)], "who_waits": [(OTHER, ((0, 1), (2,), ((), ()), -1))],
    "broken_row": [(CHECKED, "a", 1)], "is_broken_row": [(CHECKED, "a", 1, ((0, 0), (0, 1))), (CHECKED, "a", 1, [(0, 0), (0, 1)])],
    "never_both": [(TWO, "a", "b")], "held_ever": [(TWO, "n")], "most_in": [(SAMPLE, "q")],
    "is_fence": [(TWO, TRUTH, FENCE), (TWO, TRUTH, list(FENCE))], "soonest": [(SAMPLE, START, ("not", LOW))],
}
BY_ARGUMENTS = {
    ("system",): [(SAMPLE,), (OTHER,)], ("system", "part"): [(SAMPLE, "a"), (SAMPLE, "b"), (OTHER, "take")],
    ("test",): [(TEST,)], ("system", "part", "number"): [(SAMPLE, "a", 2), (SAMPLE, "b", 3)],
    ("system", "state"): [(SAMPLE, STATE), (SAMPLE, START)], ("formula",): [(WAIT,)],
    ("formula", "loop"): [(WAIT, LOOP)], ("loop",): [(LOOP,)], ("machine",): [(OFTEN,), (RARE,)],
    ("system", "heard", "machine"): [(FREE, ON, OFTEN), (FREE, ON, RARE)],
    ("one", "ones", "other", "others"): [BOTH, (FREE, ON, ALIKE, ON)],
    ("system", "heard", "formula"): [(FREE, ON, SEEN), (FREE, ON, SURE)], ("system", "test"): [(FREE, ON[0][1])],
}
GREAT = (10 ** 5000, -10 ** 5000, "9" * 5000, "[ " * 5000, "a" * 5000 + " 0", ("x",) * 2000, ((0, 0),) * 2000)
LISTS = (
    "states", "true_loops", "come_pairs", "led_from", "keeping_states", "least_kinds", "fewer_states", "all_states", "layers",
    "stuck_states", "ended_states", "lost_states", "rows_told", "lots", "paths_of",
    "replies",
)


def all_calls():
    """Triples (function, names of its arguments, arguments)."""
    for module, text in INTERFACE.items():
        home = importlib.import_module(f"runclaims.{module}")
        for name, names in calls_of(text):
            for given in CALLS.get(name) or BY_ARGUMENTS[names]:
                yield getattr(home, name), names, given


def as_lists(names, given):
    """The arguments with lists in them, but for thing, which is told as it is."""
    return [value if name == "thing" else listed(value) for name, value in zip(names, given)]


def grown_things(thing):
    """Values near this one, with something great in them."""
    yield from GREAT
    if isinstance(thing, tuple):
        for at, inner in enumerate(thing):
            for other in grown_things(inner):
                yield thing[:at] + (other,) + thing[at + 1:]
        yield thing + thing[-1:] * 1000
        yield thing * 200


def has_list(thing):
    return isinstance(thing, list) or isinstance(thing, tuple) and any([has_list(row) for row in thing])


class Arguments(unittest.TestCase):
    def test_lists_and_names(self):
        for call, names, given in all_calls():
            with self.subTest(call.__name__):
                wanted = call(*given)
                self.assertEqual(call(*as_lists(names, given)), wanted)
                self.assertEqual(call(**dict(zip(names, given))), wanted)
                self.assertEqual(call(**dict(zip(names, as_lists(names, given)))), wanted)
                mixed = [tuple(row) if isinstance(row, list) else row for row in as_lists(names, given)]
                if "thing" not in names:
                    self.assertEqual(call(*mixed), wanted)

    def test_nothing_is_changed(self):
        for call, names, given in all_calls():
            with self.subTest(call.__name__):
                lists = as_lists(names, given)
                kept = copy.deepcopy(lists)
                call(*lists)
                self.assertEqual(lists, kept)

    def test_results_are_tuples_and_lists_are_new(self):
        for call, names, given in all_calls():
            with self.subTest(call.__name__):
                one, other = call(*as_lists(names, given)), call(*as_lists(names, given))
                self.assertEqual(one, other)
                if isinstance(one, list):
                    self.assertIn(call.__name__, LISTS)
                    self.assertIsNot(one, other)
                    one.clear()
                    self.assertEqual(call(*given), other)
                    one = tuple([tuple(row) for row in other]) if call.__name__ == "layers" else tuple(other)
                self.assertFalse(has_list(one), one)

    def test_what_tells_whether_tells_true_or_false(self):
        for call, names, given in all_calls():
            if "thing" in names:
                with self.subTest(call.__name__):
                    self.assertIs(type(call(*given)), bool)
                    self.assertIs(call(*given), not has_list(given[-1]))

    def test_any_thing_may_be_asked(self):
        for call, names, given in all_calls():
            if "thing" in names and not has_list(given[-1]):
                near = list(itertools.islice(changed_things(given[-1]), 300))
                for thing in list(JUNK) + near + [((), JUNK), (JUNK, JUNK), (deep(28),) * 3, ("kept", JUNK)]:
                    with self.subTest(call.__name__, thing=thing):
                        self.assertIs(type(call(*given[:-1], thing)), bool)

    def test_things_of_any_size(self):
        for call, names, given in all_calls():
            if "thing" in names and not has_list(given[-1]):
                near = list(itertools.islice(grown_things(given[-1]), 200))
                for thing in near + [row for great in GREAT for row in (great, (great,), (great, great), ((great, great), (great,)))]:
                    with self.subTest(call.__name__):
                        self.assertIs(type(call(*given[:-1], thing)), bool)

    def test_all_arguments_are_named(self):
        for call, names, _ in all_calls():
            self.assertEqual(tuple(inspect.signature(call).parameters), names)


if __name__ == "__main__":
    unittest.main()
