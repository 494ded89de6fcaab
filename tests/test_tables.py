"""Parts compiled to PLACES and STEPS."""

import unittest

from helper import LOW, ONE, SAMPLE, SET_X, TWO, Case, Maker, X, Y, with_parts
from runclaims.errors import NoLabel, NoNumber, NoPart, Unfit
from runclaims.systems import block_of, deeds_of, labels_of, part_names
from runclaims.tables import (
    deed_with, end_of, entries, goes_round, held_places, how_many_places, is_alike, label_place,
    labels_at, lost_steps, path_of, places_behind, places_led_to, standing, step_asks, step_labels,
    step_lets, step_of, step_queues, step_reads, step_with, steps_at, steps_of, table,
)
from spots import Spots

PASS, LEAVE, ELSE = ("pass",), ("leave",), ("else",)
WHEN = ("when", LOW)
STANDS = ("stands", "a", "l")


def short(block):
    """The steps of a block, each as (place, word of its deed, goal, once)."""
    return [(row[0], row[1][0], row[2], row[3]) for row in steps_of(with_parts(block), "a")]


class Compiled(Case):
    def assert_compiled(self, block, wanted, end):
        self.assertEqual(short(block), wanted)
        self.assertEqual(end_of(with_parts(block), "a"), end)

    def test_rows_of_deeds(self):
        self.assert_compiled((), [], 0)
        self.assert_compiled((PASS,), [(0, "pass", 1, False)], 1)
        self.assert_compiled((SET_X, WHEN), [(0, "let", 1, False), (1, "when", 2, False)], 2)
        block = (SET_X, ("put", "q", X), ("get", "q", "y"), WHEN, ("check", LOW))
        deeds = [row[1] for row in steps_of(with_parts(block), "a")]
        self.assertEqual(deeds, list(block))

    def test_labels(self):
        one, other = ("label", "l"), ("label", "m")
        self.assert_compiled((one,), [], 0)
        self.assert_compiled((one, other), [], 0)
        self.assert_compiled((PASS, one, other), [(0, "pass", 1, False)], 1)
        self.assert_compiled((one, PASS, other, PASS), [(0, "pass", 1, False), (1, "pass", 2, False)], 2)
        system = with_parts((PASS, one, other, PASS))
        self.assertEqual([labels_at(system, "a", place) for place in range(3)], [(), ("l", "m"), ()])
        self.assertEqual(label_place(with_parts((one, other)), "a", "m"), 0)

    def test_picks(self):
        block = (("pick", ((WHEN, SET_X), (PASS,))), PASS)
        self.assert_compiled(block, [
            (0, "when", 1, False), (0, "pass", 2, False), (1, "let", 2, False), (2, "pass", 3, False),
        ], 3)
        block = (("pick", ((WHEN,), (ELSE, SET_X))),)
        self.assert_compiled(block, [(0, "when", 2, False), (0, "else", 1, False), (1, "let", 2, False)], 2)
        inner = ("pick", ((SET_X,), (("check", LOW),)))
        block = (("pick", ((PASS, inner), (WHEN,))),)
        self.assert_compiled(block, [
            (0, "pass", 1, False), (0, "when", 2, False), (1, "let", 2, False), (1, "check", 2, False),
        ], 2)

    def test_agains(self):
        self.assert_compiled((("again", ((PASS,),)),), [(0, "pass", 0, False)], 1)
        self.assert_compiled((("again", ((LEAVE,),)),), [(0, "pass", 1, False)], 1)
        block = (SET_X, ("again", ((WHEN, SET_X), (LEAVE,))), PASS)
        self.assert_compiled(block, [
            (0, "let", 1, False), (1, "when", 2, False), (1, "pass", 3, False), (2, "let", 1, False),
            (3, "pass", 4, False),
        ], 4)
        self.assertEqual(step_of(with_parts(block), "a", 2), (1, PASS, 3, False))

    def test_agains_within_agains(self):
        inner = ("again", ((WHEN, LEAVE), (SET_X,)))
        block = (("again", ((PASS, inner, ("check", LOW)), (LEAVE,))),)
        self.assert_compiled(block, [
            (0, "pass", 1, False), (0, "pass", 4, False), (1, "when", 2, False), (1, "let", 1, False),
            (2, "pass", 3, False), (3, "check", 0, False),
        ], 4)
        block = (("again", ((PASS, inner),)),)
        self.assert_compiled(block, [
            (0, "pass", 1, False), (1, "when", 2, False), (1, "let", 1, False), (2, "pass", 0, False),
        ], 3)

    def test_goes(self):
        block = (("label", "l"), SET_X, ("pick", ((WHEN, ("go", "l")), (ELSE,))))
        self.assert_compiled(block, [
            (0, "let", 1, False), (1, "when", 2, False), (1, "else", 3, False), (2, "pass", 0, False),
        ], 3)
        self.assert_compiled((("go", "m"), PASS, ("label", "m")), [(0, "pass", 2, False), (1, "pass", 2, False)], 2)
        self.assert_compiled((("label", "l"), ("go", "l")), [(0, "pass", 0, False)], 1)
        self.assertEqual(step_of(with_parts((("label", "l"), ("go", "l"))), "a", 0)[1], PASS)

    def test_onces(self):
        self.assert_compiled((("once", (PASS,)),), [(0, "pass", 1, False)], 1)
        self.assert_compiled((("once", (PASS, SET_X, PASS)), PASS), [
            (0, "pass", 1, True), (1, "let", 2, True), (2, "pass", 3, False), (3, "pass", 4, False),
        ], 4)
        self.assert_compiled((("again", ((("once", (PASS, SET_X)),),)),), [
            (0, "pass", 1, True), (1, "let", 0, False),
        ], 2)
        block = (("pick", ((("once", (WHEN, SET_X)),), (ELSE,))),)
        self.assert_compiled(block, [(0, "when", 1, True), (0, "else", 2, False), (1, "let", 2, False)], 2)

    def test_onces_with_a_pick_or_an_again_at_their_end(self):
        pick = ("pick", ((WHEN, SET_X), (PASS,)))
        self.assert_compiled((("once", (PASS, pick)), PASS), [
            (0, "pass", 1, True), (1, "when", 2, True), (1, "pass", 3, False), (2, "let", 3, False),
            (3, "pass", 4, False),
        ], 4)
        self.assert_compiled((("once", (PASS, ("pick", ((PASS, pick), (ELSE,))))),), [
            (0, "pass", 1, True), (1, "pass", 2, True), (1, "else", 4, False), (2, "when", 3, True),
            (2, "pass", 4, False), (3, "let", 4, False),
        ], 4)
        again = ("again", ((WHEN, SET_X), (LEAVE,)))
        self.assert_compiled((("once", (PASS, again)),), [
            (0, "pass", 1, True), (1, "when", 2, True), (1, "pass", 3, False), (2, "let", 1, True),
        ], 3)
        around = (("again", ((("once", (PASS, pick)),), (LEAVE,))),)
        self.assert_compiled(around, [
            (0, "pass", 1, True), (0, "pass", 3, False), (1, "when", 2, True), (1, "pass", 0, False),
            (2, "let", 0, False),
        ], 3)
        self.assert_compiled((("once", (PASS, again, SET_X)),), [
            (0, "pass", 1, True), (1, "when", 2, True), (1, "pass", 3, True), (2, "let", 1, True),
            (3, "let", 4, False),
        ], 4)
        self.assertEqual(held_places(with_parts((("once", (PASS, again, SET_X)),)), "a"), (1, 2, 3))

    def test_like_joined_spots(self):
        maker = Maker(11)
        for _ in range(150):
            system = maker.system(1, 6, 3)
            spots = Spots(block_of(system, "a"))
            wanted = spots.steps()
            self.assertEqual(list(steps_of(system, "a")), [row[0] for row in wanted])
            self.assertEqual(how_many_places(system, "a"), len(spots.places))
            self.assertEqual(end_of(system, "a"), spots.place(spots.end))
            for number, (_, path) in enumerate(wanted):
                self.assertEqual(path_of(system, "a", number), path)
            for label in labels_of(system, "a"):
                self.assertEqual(label_place(system, "a", label), spots.label_places()[label])
            begun = [row[0] for row in steps_of(system, "a")]
            self.assertEqual(sorted(set(begun)), list(range(end_of(system, "a"))))


class Asked(Case):
    def test_steps_and_places(self):
        self.assertEqual(table(SAMPLE), (steps_of(SAMPLE, "a"), steps_of(SAMPLE, "b")))
        self.assertEqual(steps_at(SAMPLE, "a", 1), (1, 2))
        self.assertEqual(steps_at(SAMPLE, "a", 4), ())
        self.assertEqual(how_many_places(SAMPLE, "a"), 5)
        self.assertEqual(step_of(SAMPLE, "a", 3), (2, PASS, 1, False))
        self.assertEqual(how_many_places(with_parts(()), "a"), 1)
        self.assertEqual((table(with_parts(())), steps_at(with_parts(()), "a", 0)), (((),), ()))

    def test_no_such_part_place_or_step(self):
        for call in (steps_of, end_of, how_many_places, held_places, lost_steps, goes_round):
            self.assert_raises(NoPart, {"name": "x"}, call, SAMPLE, "x")
        for call in (steps_at, labels_at, places_behind, places_led_to, entries):
            for place in (-1, 5, 99, -5):
                self.assert_raises(NoNumber, {"number": place}, call, SAMPLE, "a", place)
                self.assert_raises(NoPart, {"name": "q"}, call, SAMPLE, "q", place)
            call(SAMPLE, "a", 4)
        for call in (
            step_of, path_of, step_reads, step_lets, step_queues, step_asks, step_labels,
        ):
            for number in (-1, 5, 99):
                self.assert_raises(NoNumber, {"number": number}, call, SAMPLE, "a", number)
                self.assert_raises(NoPart, {"name": ""}, call, SAMPLE, "", number)
            call(SAMPLE, "a", 4)
        self.assert_raises(NoLabel, {"name": "end"}, label_place, SAMPLE, "a", "end")
        self.assert_raises(NoLabel, {"name": "top"}, label_place, SAMPLE, "b", "top")
        self.assert_raises(NoPart, {"name": "c"}, label_place, SAMPLE, "c", "end")

    def test_standing(self):
        block = (("label", "l"), PASS, ("label", "n"), ("label", "m"))
        system = with_parts(block, block)
        self.assertEqual(standing(system, (0, 1)), (("a", "l"), ("b", "m"), ("b", "n")))
        self.assertEqual(standing(SAMPLE, (1, 0)), (("a", "top"),))
        self.assertEqual(standing(SAMPLE, (0, 3)), ())
        for places, number in (((5, 9), 5), ((0, 9), 9), ((-1, -2), -1), ((4, 4), 4), ((0, -1), -1)):
            self.assert_raises(NoNumber, {"number": number}, standing, SAMPLE, places)

    def test_paths(self):
        once = ("once", (PASS, ("pick", ((PASS,), (ELSE, SET_X)))))
        block = (("label", "l"), ("again", ((once, LEAVE), (WHEN,))), ("go", "l"))
        system = with_parts(block)
        paths = [path_of(system, "a", number) for number in range(len(steps_of(system, "a")))]
        self.assertEqual(paths, [
            (1, 0, 0, 0), (1, 1, 0), (1, 0, 0, 1, 0, 0), (1, 0, 0, 1, 1, 0), (1, 0, 0, 1, 1, 1), (1, 0, 1), (2,),
        ])
        for number, path in enumerate(paths):
            self.assertEqual(step_with(system, "a", path), number)
        self.assertEqual(deed_with(system, "a", (1, 0, 0)), once)
        self.assertEqual(deed_with(system, "a", (0,)), ("label", "l"))
        self.assertEqual(deed_with(system, "a", (2,)), ("go", "l"))
        self.assertEqual(deed_with(system, "a", (1,)), block[1])
        self.assertEqual(deed_with(system, "a", (1, 0, 0, 1, 1, 1)), SET_X)
        for path in ((0,), (1,), (1, 0, 0), (1, 0, 0, 1)):
            self.assert_raises(Unfit, {}, step_with, system, "a", path)
        for path in (
            (), (3,), (-1,), (1, 0), (1, 2, 0), (1, -1, 0), (1, 0, -1), (2, 0), (2, 0, 0), (1, 0, 0, 2),
            (1, 0, 0, 0, 0), (10 ** 20,), (1, 0, 0, 1, 1), (-2, 0, 0), (0, 0),
        ):
            self.assert_raises(Unfit, {}, step_with, system, "a", path)
            self.assert_raises(Unfit, {}, deed_with, system, "a", path)
            self.assert_raises(NoPart, {"name": "b"}, step_with, system, "b", path)
            self.assert_raises(NoPart, {"name": "b"}, deed_with, system, "b", path)

    def test_ways(self):
        block = (("go", "m"), SET_X, ("label", "m"), ("again", ((PASS, PASS), (LEAVE,))), WHEN)
        system = with_parts(block, (PASS, PASS))
        self.assertEqual(short(block), [
            (0, "pass", 2, False), (1, "let", 2, False), (2, "pass", 3, False), (2, "pass", 4, False),
            (3, "pass", 2, False), (4, "when", 5, False),
        ])
        told = [places_behind(system, "a", place) for place in range(6)]
        self.assertEqual(told, [(2,), (2,), (3, 4), (2,), (5,), ()])
        told = [places_led_to(system, "a", place) for place in range(6)]
        self.assertEqual(told, [(0, 2, 3, 4, 5), (1, 2, 3, 4, 5), (2, 3, 4, 5), (2, 3, 4, 5), (4, 5), (5,)])
        self.assertEqual([entries(system, "a", place) for place in range(6)], [(), (), (0, 1, 4), (2,), (3,), (5,)])
        self.assertEqual((lost_steps(system, "a"), lost_steps(system, "b")), ((1,), ()))
        self.assertEqual((goes_round(system, "a"), goes_round(system, "b")), (True, False))
        self.assertEqual(places_behind(with_parts((("pick", ((PASS,), (PASS,))),)), "a", 0), (1,))

    def test_rounds_that_nothing_leads_to(self):
        block = (("go", "end"), ("again", ((PASS,),)), ("label", "end"))
        self.assertIs(goes_round(with_parts(block), "a"), False)
        self.assertEqual(lost_steps(with_parts(block), "a"), (1,))
        self.assertIs(goes_round(with_parts((("again", ((LEAVE,),)),)), "a"), False)
        self.assertIs(goes_round(with_parts((("again", ((WHEN,), (LEAVE,))),)), "a"), True)
        self.assertIs(goes_round(with_parts(()), "a"), False)

    def test_what_steps_touch(self):
        both = ("or", ("full", "q"), ("and", STANDS, ("same", Y, ONE)))
        nest = ("pick", ((("put", "h", X),), (("get", "q", "x"),), (("when", both),), (ELSE, ("let", "y", X))))
        system = with_parts((("label", "l"), nest), ())
        rows = range(5)
        self.assertEqual([step_reads(system, "a", row) for row in rows], [("x",), (), ("y",), ("x", "y"), ("x",)])
        self.assertEqual([step_lets(system, "a", row) for row in rows], [(), ("x",), (), (), ("y",)])
        self.assertEqual([step_queues(system, "a", row) for row in rows], [("h",), ("q",), ("q",), ("h", "q"), ()])
        pair = (("a", "l"),)
        self.assertEqual([step_asks(system, "a", row) for row in rows], [(), (), pair, pair, ()])
        go = with_parts((("label", "l"), ("go", "l"), ("label", "m"), PASS))
        self.assertEqual(step_reads(go, "a", 0) + step_lets(go, "a", 0) + step_queues(go, "a", 0), ())

    def test_labels_left_and_come_to(self):
        block = (
            ("label", "l"), ("label", "k"), PASS, ("label", "m"), ("pick", ((WHEN, ("go", "l")), (ELSE,))),
            ("again", ((PASS,),)),
        )
        system = with_parts(block)
        self.assertEqual(short(block), [
            (0, "pass", 1, False), (1, "when", 2, False), (1, "else", 3, False), (2, "pass", 0, False),
            (3, "pass", 3, False),
        ])
        told = [step_labels(system, "a", number) for number in range(5)]
        self.assertEqual(told, [("k", "l", "m"), ("m",), ("m",), ("k", "l"), ()])
        self.assertEqual(step_labels(with_parts((("label", "l"), ("go", "l"))), "a", 0), ())

    def test_alike(self):
        go = (("label", "l"), ("go", "l"))
        nested = (("label", "l"), ("again", ((PASS,),)))
        system = with_parts(go, nested, (("again", ((PASS,),)),))
        self.assertIs(is_alike(system, "a", "b"), True)
        self.assertIs(is_alike(system, "b", "a"), True)
        self.assertIs(is_alike(system, "a", "c"), False)
        self.assertIs(is_alike(system, "c", "c"), True)
        self.assertIs(is_alike(with_parts((PASS,), (SET_X,)), "a", "b"), False)
        self.assertIs(is_alike(with_parts((PASS,), (PASS, ("label", "x"))), "a", "b"), False)
        self.assertIs(is_alike(with_parts((("once", (PASS, PASS)),), (PASS, PASS)), "a", "b"), False)
        self.assertIs(is_alike(with_parts((), ()), "a", "b"), True)
        self.assert_raises(NoPart, {"name": "x"}, is_alike, system, "x", "y")
        self.assert_raises(NoPart, {"name": "y"}, is_alike, system, "a", "y")


class AtRandom(Case):
    def test_places_and_steps_fit(self):
        maker = Maker(12)
        for _ in range(60):
            system = maker.system(2, 5, 3)
            for part in part_names(system):
                self.check_part(system, part)

    def check_part(self, system, part):
        steps, end = steps_of(system, part), end_of(system, part)
        self.assertEqual(steps_at(system, part, end), ())
        self.assertEqual(places_behind(system, part, end), ())
        led = {place: set(places_led_to(system, part, place)) for place in range(end + 1)}
        for number, step in enumerate(steps):
            self.assertEqual(step_of(system, part, number), step)
            self.assertIn(number, steps_at(system, part, step[0]))
            self.assertIn(number, entries(system, part, step[2]))
            self.assertTrue(led[step[2]] <= led[step[0]])
            self.assertEqual(number in lost_steps(system, part), step[0] not in led[0])
            self.assertEqual(step_with(system, part, path_of(system, part, number)), number)
            self.assertIn(deed_with(system, part, path_of(system, part, number)), deeds_of(system, part))
            at, goal = labels_at(system, part, step[0]), labels_at(system, part, step[2])
            self.assertEqual(set(step_labels(system, part, number)), set(at) ^ set(goal))
        self.assertEqual(set(held_places(system, part)), {step[2] for step in steps if step[3]})
        self.assertEqual(goes_round(system, part), any([
            step[0] in led[step[2]] and step[0] in led[0] for step in steps
        ]))


if __name__ == "__main__":
    unittest.main()
