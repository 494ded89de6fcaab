"""EDITS: what they lead to, what refuses them, what leads back; what is told alike when squeezed."""

import unittest

from goings import Goings
from helper import JUNK, LOW, ONE, SAMPLE, SET_X, X, Case, Maker, changed_things, free_clock, listed, with_parts
from likes import Told, pairs_of_systems
from runclaims.edits import (
    can_edit, edited, edits_commute, is_squeezed_apart, never_full, never_turned, paths_of, squeezed_alike, squeezed_apart,
    undone_by,
)
from runclaims.errors import Known, ModelError, NoCell, NoLabel, NoPart, NoQueue, Unfit
from runclaims.formulas import has_next
from runclaims.reach import never_stood
from runclaims.sames import squeezed, tell_alike
from runclaims.systems import block_of, cell_row, deeds_of, is_system, queue_row, relabelled, renamed
from runclaims.tables import deed_with, how_many_places, path_of, step_with, steps_at, steps_of
from runclaims.verdicts import keeps

PASS = ("pass",)
A_PATHS = [(0,), (1,), (2,), (2, 0, 0), (2, 0, 1), (2, 1, 0), (3,)]
B_PATHS = [(0,), (0, 0, 0), (0, 0, 1), (0, 0, 1, 0), (0, 0, 1, 1), (0, 1, 0)]


def as_lists(block):
    """A block as lists that can be changed; what stands in no block is kept as it is."""
    found = []
    for deed in block:
        if deed[0] == "once":
            deed = [deed[0], as_lists(deed[1])]
        elif deed[0] in ("pick", "again"):
            deed = [deed[0], [as_lists(inner) for inner in deed[1]]]
        found.append(deed)
    return found


def as_block(row):
    found = []
    for deed in row:
        if deed[0] == "once":
            deed = (deed[0], as_block(deed[1]))
        elif isinstance(deed, list):
            deed = (deed[0], tuple([as_block(inner) for inner in deed[1]]))
        found.append(deed)
    return tuple(found)


def plain_deeds(system, edit):
    """What an EDIT of DEEDS leads to; None if it is refused by Unfit."""
    kind, part, path = edit[:3]
    whole = as_lists(block_of(system, part))
    row, way = whole, list(path)
    if not way or any([number < 0 for number in way]):
        return None
    try:
        while len(way) > 1 and row is not None:
            deed = row[way.pop(0)]
            row = deed[1] if deed[0] == "once" else deed[1][way.pop(0)] if isinstance(deed, list) else None
        if row is None or way[0] > len(row) - (kind != "insert"):
            return None
    except IndexError:
        return None
    row[way[0]:way[0] + (kind != "insert")] = [] if kind == "remove" else as_lists((edit[3],))
    parts = tuple([(name, as_block(whole) if name == part else block) for name, block in system[2]])
    found = (*system[:2], parts)
    return found if is_system(found) else None


def all_numbers(system, part):
    """Paths of all kinds: of each DEED, behind the last one of each block, and of none."""
    found = [(), (-1,), (0, 0), (9,), (0, 0, 0), (0, 1, 0), (0, 9, 0), (10 ** 20,), (0, -1, 0), (0, 0, 1, 0, 0)]
    for path in paths_of(system, part):
        found.extend([path, path[:-1] + (path[-1] + 1,), path + (0,), path + (0, 0), path + (0, 1), path + (1, 0), path[:-1]])
    return sorted(set(found))


def samples(seed, many, **sizes):
    maker = Maker(seed)
    for _ in range(many):
        yield maker, maker.system(parts=maker.random.randint(1, 3), **sizes)


class Deeds(Case):
    def test_paths(self):
        self.assertEqual(paths_of(SAMPLE, "a"), A_PATHS)
        self.assertEqual(paths_of(SAMPLE, "b"), B_PATHS)
        self.assertEqual(paths_of(with_parts((), (PASS,)), "a"), [])
        self.assert_raises(NoPart, {"name": "x"}, paths_of, SAMPLE, "x")
        self.assert_raises(NoPart, {"name": ""}, paths_of, system=listed(SAMPLE), part="")
        for _, system in samples(221, 60, deeds=5):
            for name, block in system[2]:
                paths = paths_of(system, name)
                self.assertEqual(len(paths), len(deeds_of(system, name)))
                self.assertEqual(sorted([deed_with(system, name, path) for path in paths]), sorted(deeds_of(system, name)))
                for number in range(len(steps_of(system, name))):
                    self.assertIn(path_of(system, name, number), paths)
                    self.assertEqual(step_with(system, name, path_of(system, name, number)), number)

    def test_deeds_put_in_taken_out_and_changed(self):
        counts = {True: 0, False: 0}
        for maker, system in samples(222, 150, deeds=4):
            for name, block in system[2]:
                for path in all_numbers(system, name):
                    deed = maker.pick(PASS, SET_X, ("label", "l"), ("else",), ("leave",), ("once", (PASS,)), ("pick", ((PASS,), (("else",),))), ("go", "l"))
                    for edit in (("insert", name, path, deed), ("remove", name, path), ("replace", name, path, deed)):
                        wanted = plain_deeds(system, edit)
                        counts[wanted is not None] += 1
                        self.assertIs(can_edit(system, edit), wanted is not None)
                        if wanted is None:
                            self.assert_raises(Unfit, {}, edited, system, edit)
                            self.assert_raises(Unfit, {}, undone_by, system, edit)
                        else:
                            self.assertEqual(edited(system, edit), wanted)
                            self.assertEqual(edited(wanted, undone_by(system, edit)), system)
                            self.assertEqual(undone_by(system, edit)[1:3], (name, path))
        self.assertGreater(min(counts.values()), 500)

    def test_at_each_number_of_a_path(self):
        for path in A_PATHS[:3] + [(4,), (2, 0, 1), (2, 0, 2), (2, 1, 1)]:
            self.assertEqual(edited(SAMPLE, ("insert", "a", path, PASS)), plain_deeds(SAMPLE, ("insert", "a", path, PASS)))
        self.assertEqual(edited(SAMPLE, ("insert", "b", (0, 0, 1, 2), PASS))[2][1][1][0][1][0][1][1][-1], PASS)
        for path in ((), (5,), (-1,), (0, 0), (2, 2, 0), (2, 0, 3), (2, 0, -1), (2, -1, 0), (2,) * 4, (2, 0), (2, 0, 0, 0)):
            self.assert_raises(Unfit, {}, edited, SAMPLE, ("insert", "a", path, PASS))
            self.assert_raises(Unfit, {}, edited, listed(SAMPLE), ["insert", "a", list(path), ["pass"]])
        # What may not stand there, or what others need, or the last DEED of a block within.
        for edit in (
            ("insert", "a", (0,), ("label", "top")), ("insert", "a", (0,), ("go", "gone")), ("insert", "a", (0,), ("else",)),
            ("insert", "a", (2, 0, 0), ("label", "new")), ("insert", "b", (0, 0, 1, 0), ("go", "x")), ("insert", "a", (0,), ("leave",)),
            ("insert", "a", (0,), ("let", "z", ONE)), ("insert", "a", (0,), ("put", "x", ONE)), ("insert", "a", (0,), ("get", "q", "q")),
            ("insert", "a", (0,), ("when", ("stands", "a", "low"))), ("insert", "a", (0,), ()), ("insert", "a", (0,), None), ("insert", "a", (0,), ("pick", ())),
            ("remove", "a", (1,)), ("remove", "b", (0, 1, 0)), ("remove", "a", (2, 1, 0)), ("replace", "a", (1,), PASS), ("replace", "a", (2, 0, 0), ("pick", ((PASS,),))),
        ):
            self.assert_raises(Unfit, {}, edited, SAMPLE, edit)
            self.assert_raises(Unfit, {}, undone_by, SAMPLE, edit)
            self.assertIs(can_edit(SAMPLE, edit), False)


class Others(Case):
    def refused(self, error, told, *edits):
        for edit in edits:
            for call in (edited, undone_by):
                self.assert_raises(error, told, call, SAMPLE, edit)
                self.assert_raises(error, told, call, system=listed(SAMPLE), edit=listed(edit))
            self.assertIs(can_edit(SAMPLE, edit), False)
            self.assertIs(edits_commute(SAMPLE, edit, edit), False)

    def led_to(self, edit, wanted, back):
        self.assertEqual(edited(SAMPLE, edit), wanted)
        self.assertEqual(edited(listed(SAMPLE), listed(edit)), wanted)
        self.assertEqual(undone_by(SAMPLE, edit), back)
        self.assertEqual(undone_by(SAMPLE, listed(edit)), back)
        self.assertEqual(edited(wanted, back), SAMPLE)
        self.assertIs(can_edit(SAMPLE, edit), True)
        self.assertIs(can_edit(SAMPLE, listed(edit)), False)

    def test_what_they_lead_to(self):
        cells, queues, parts = SAMPLE
        self.led_to(("top", "x", 9), ((("x", 9, 0), cells[1]), queues, parts), ("top", "x", 3))
        self.led_to(("top", "y", 1), ((cells[0], ("y", 1, 0)), queues, parts), ("top", "y", 3))
        self.led_to(("value", "y", 3), ((cells[0], ("y", 3, 3)), queues, parts), ("value", "y", 0))
        self.led_to(("room", "q", 0), (cells, (("q", 0, 3),), parts), ("room", "q", 1))
        self.led_to(("cell", "c", 2, 1), ((("c", 2, 1),) + cells, queues, parts), ("drop", "c"))
        self.led_to(("queue", "z", 3, 9), (cells, queues + (("z", 3, 9),), parts), ("drop", "z"))
        self.led_to(("part", "aa", (PASS,)), (cells, queues, (parts[0], ("aa", (PASS,)), parts[1])), ("drop", "aa"))
        self.led_to(("part", "c", ()), (cells, queues, parts + (("c", ()),)), ("drop", "c"))
        self.led_to(("drop", "b"), (cells, queues, parts[:1]), ("part", "b", parts[1][1]))
        self.led_to(("name", "x", "far"), renamed(SAMPLE, "x", "far"), ("name", "far", "x"))
        self.led_to(("name", "b", "x" * 8), renamed(SAMPLE, "b", "x" * 8), ("name", "x" * 8, "b"))
        self.led_to(("label", "a", "top", "q"), relabelled(SAMPLE, "a", "top", "q"), ("label", "a", "q", "top"))
        spare = edited(edited(SAMPLE, ("cell", "c", 2, 1)), ("queue", "r", 2, 4))
        for name, back in (("c", ("cell", "c", 2, 1)), ("r", ("queue", "r", 2, 4))):
            self.assertEqual(undone_by(spare, ("drop", name)), back)
            self.assertEqual(edited(edited(spare, ("drop", name)), back), spare)

    def test_what_refuses_them(self):
        for name in ("c", "x", "q", "", "AB", "cell"):
            self.refused(
                NoPart, {"name": name}, ("insert", name, (9,), None), ("remove", name, ()), ("replace", name, (0, 0), PASS),
                ("label", name, "none", "top"),
            )
        for name in ("a", "q", "z", "", "cell"):
            self.refused(NoCell, {"name": name}, ("top", name, 99), ("value", name, -1))
        for name in ("a", "x", "z", ""):
            self.refused(NoQueue, {"name": name}, ("room", name, 99))
        for name in ("a", "b", "x", "y", "q"):
            self.refused(
                Known, {"name": name}, ("cell", name, 0, 99), ("queue", name, 99, 0), ("part", name, ("x",)), ("name", "x", name),
                ("name", name, name),
            )
        for name in ("c", "z", "", "cell", "top"):
            self.refused(NoPart, {"name": name}, ("drop", name), ("name", name, "a"), ("name", name, "cell"), ("name", name, name))
        self.refused(NoLabel, {"name": "low"}, ("label", "a", "low", "top"), ("label", "b", "low", "cell"))
        self.refused(
            Unfit, {}, ("top", "x", 0), ("top", "x", 10), ("value", "x", 4), ("value", "x", -1), ("room", "q", 4), ("room", "q", -1),
            ("cell", "c", 0, 0), ("cell", "c", 10, 0), ("cell", "c", 2, 3), ("cell", "cell", 2, 0), ("cell", "", 2, 0), ("cell", "cC", 2, 0),
            ("queue", "c", 4, 1), ("queue", "c", 0, 0), ("queue", "a" * 9, 0, 1), ("part", "c", (("leave",),)), ("part", "c", ("pass",)),
            ("part", "go", ()), ("drop", "x"), ("drop", "y"), ("drop", "q"), ("name", "x", "go"), ("name", "a", ""), ("name", "q", "Q"),
            ("label", "a", "top", "top"), ("label", "a", "top", "go"), ("label", "a", "top", ""),
        )
        self.assert_raises(Unfit, {}, edited, with_parts((PASS,), queues=()), ("drop", "a"))
        self.assert_raises(Unfit, {}, edited, with_parts((PASS, ("label", "l")), (("when", ("stands", "a", "l")),)), ("drop", "a"))
        empty = with_parts((("when", ("empty", "q")),))
        self.assert_raises(Unfit, {}, edited, empty, ("room", "q", 0))
        high = ((("x", 5, 4),), (), (("a", ()),))
        self.assert_raises(Unfit, {}, edited, high, ("top", "x", 3))
        self.assertEqual(edited(high, ("top", "x", 4))[0], (("x", 4, 4),))

    def test_what_is_an_edit(self):
        good = (
            ("insert", "a", (2, 0, 1), ("when", LOW)), ("remove", "a", (0,)), ("top", "x", 4), ("cell", "c", 2, 1), ("part", "c", (PASS, SET_X)),
            ("name", "x", "z"), ("label", "a", "top", "low"), ("queue", "r", 0, 9), ("value", "y", 1), ("room", "q", 2), ("drop", "b"),
        )
        for edit in good:
            self.assertIs(can_edit(SAMPLE, edit), True)
            self.assertIs(can_edit(SAMPLE, list(edit)), False)
            for thing in changed_things(edit):
                told = can_edit(SAMPLE, thing)
                self.assertIs(type(told), bool)
                self.assertFalse(told and ("[" in repr(thing) or "True" in repr(thing)))
        for thing in JUNK + (
            ("insert", "a", (True,), PASS), ("insert", "a", (0,), ["pass"]), ("insert", "a", [0], PASS), ("remove", "a", 0), ("remove", "a", ("0",)),
            ("top", "x", True), ("top", "x", "4"), ("value", "x", None), ("cell", "c", 1, True), ("cell", "c", 2), ("part", "c", [PASS]),
            ("part", ["c"], ()), ("name", "x", ("z",)), ("name", None, "z"), ("label", "a", "top", None), ("add", "x"), ("drop",), (["drop"], "b"),
            ("drop", "b", "b"), ("part", "c", (["pass"],)), ("insert", "a", (0,), ("when", ["less", X, ONE])), ("cell", "c", 2, 1, 0),
        ):
            self.assertIs(can_edit(SAMPLE, thing), False, thing)

    def test_which_commute(self):
        cases = (
            (("remove", "a", (0,)), ("remove", "b", (0, 0, 1, 0)), True), (("insert", "a", (0,), PASS), ("insert", "a", (1,), SET_X), False),
            (("insert", "a", (3,), PASS), ("insert", "a", (3,), PASS), True), (("value", "x", 1), ("value", "x", 2), False), (("value", "x", 1), ("value", "x", 1), True),
            (("name", "x", "z"), ("value", "y", 1), True), (("name", "x", "z"), ("value", "x", 1), False), (("cell", "c", 1, 0), ("drop", "c"), False),
            (("top", "x", 1), ("value", "x", 2), False), (("top", "x", 2), ("value", "x", 1), True), (("drop", "b"), ("drop", "a"), False),
            (("drop", "b"), ("drop", "b"), False), (("label", "a", "top", "low"), ("name", "a", "c"), False), (("room", "q", 3), ("part", "c", ()), True),
        )
        for edit, later, wanted in cases:
            self.assertIs(edits_commute(SAMPLE, edit, later), wanted, (edit, later))
            self.assertIs(edits_commute(SAMPLE, later, edit), wanted)
            self.assertIs(edits_commute(system=listed(SAMPLE), edit=listed(edit), later=listed(later)), wanted)


class Queues(Case):
    def test_never_full_and_never_turned(self):
        some = {"full": 0, "turned": 0, "free": 0, "kept": 0}
        maker = Maker(223)
        for _ in range(150):
            system = maker.small(25, 2, parts=maker.random.randint(1, 3))
            goings = Goings(system)
            full, turned = set(), set()
            for state in goings.all_states():
                full |= {row[0] for row, lies in zip(system[1], state[2]) if len(lies) >= row[1]}
                for turn in goings.ready(state):
                    cell, number = self.brought(goings, state, turn)
                    if cell and not 0 <= number <= cell_row(system, cell)[1]:
                        turned.add(cell)
            free = tuple([row[0] for row in system[1] if row[1] > 0 and row[0] not in full])
            kept = tuple([row[0] for row in system[0] if row[0] not in turned])
            self.assertEqual(never_full(system), free)
            self.assertEqual(never_turned(system), kept)
            some["full"] += full != set()
            some["turned"] += turned != set()
            some["free"] += free != ()
            some["kept"] += kept != ()
            # The guarantee: with more room, with a greater top, the same is told.
            heard = maker.heard(system, "pq")
            edits = [("room", name, queue_row(system, name)[1] + 1) for name in free] + [("top", name, 9) for name in kept]
            for edit in edits:
                if can_edit(system, edit) and "full" not in repr((heard, system)):
                    self.assertIs(tell_alike(system, heard, edited(system, edit), heard), True, (system, heard, edit))
        self.assertGreater(min(some.values()), 15, some)

    def brought(self, goings, state, turn):
        deeds = [goings.steps[part][step][1] for part, step in (turn[:2], turn[2:])[:len(turn) // 2]]
        if deeds and deeds[0][0] == "let":
            return deeds[0][1], goings.value(state, deeds[0][2])
        if deeds and deeds[0][0] == "get":
            return deeds[0][2], state[2][goings.number(goings.queues, deeds[0][1])][0]
        if len(deeds) == 2:
            top = goings.queues[goings.number(goings.queues, deeds[0][1])][2]
            return deeds[1][2], goings.value(state, deeds[0][2]) % (top + 1)
        return None, 0

    def test_numbers_as_they_come(self):
        nine = ("number", 9)
        cells, queues = (("x", 3, 0), ("y", 9, 0)), (("h", 0, 4), ("q", 2, 4))
        for blocks, kept, free in (
            (((("put", "q", nine),), (("get", "q", "x"),)), ("y",), ("q",)), (((("put", "q", ONE),), (("get", "q", "x"),)), ("x", "y"), ("q",)),
            (((("put", "h", nine),), (("get", "h", "x"),)), ("y",), ("q",)), (((("put", "h", nine),), (("get", "h", "y"),)), ("x", "y"), ("q",)),
            (((("let", "x", nine),), ()), ("y",), ("q",)), (((("let", "x", ("gap", X, ONE)),), ()), ("y",), ("q",)), (((), ()), ("x", "y"), ("q",)),
            (((("put", "q", ONE), ("put", "q", ONE)), ()), ("x", "y"), ()), (((("when", ("less", X, X)), ("let", "x", nine)), ()), ("x", "y"), ("q",)),
        ):
            system = with_parts(*blocks, cells=cells, queues=queues)
            self.assertEqual((never_turned(system), never_full(system)), (kept, free), blocks)


def plain_squeezed(told, also, most):
    """What is told by just one of both in rows of at most so many sets, squeezed."""
    begun, ended = told.squeezed_rows(most)
    begun_too, ended_too = also.squeezed_rows(most)
    return {(row, False) for row in begun ^ begun_too} | {(row, True) for row in ended ^ ended_too}


class Squeezed(Case):
    def test_told_alike_squeezed(self):
        counts = {True: 0, False: 0}
        for maker, one, ones, other, others, told, also in pairs_of_systems(224, 400, 9):
            if ones != others:
                continue
            heard = ones
            apart = plain_squeezed(told, also, 6)
            found = squeezed_apart(one, other, heard)
            counts[found is None] += 1
            self.assertIs(squeezed_alike(one, other, heard), found is None)
            if found is None:
                self.assertEqual(apart, set())
            else:
                row, ends = found
                self.assertEqual(squeezed(row), row)
                self.assertNotEqual(told.tells_squeezed(row, ends), also.tells_squeezed(row, ends))
                self.assertIs(is_squeezed_apart(one, other, heard, found), True)
                self.assertIs(is_squeezed_apart(other, one, heard, found), True)
                self.assertIs(is_squeezed_apart(one, other, heard, listed(found)), False)
            rows = sorted(told.squeezed_rows(4)[0] | also.squeezed_rows(4)[0])
            for row in rows[:6]:
                for ends in (True, False):
                    wanted = told.tells_squeezed(row, ends) != also.tells_squeezed(row, ends)
                    self.assertIs(is_squeezed_apart(one, other, heard, (row, ends)), wanted)
            # The guarantee: no FORMULA without next is kept by the one alone.
            for formula in [maker.formula("pq", 3) for _ in range(3)]:
                if found is None and not has_next(formula):
                    self.assertIs(keeps(one, heard, formula), keeps(other, heard, formula))
        self.assertGreater(min(counts.values()), 25)

    def test_what_tells_them_apart(self):
        heard = (("p", ("same", X, ONE)),)
        set_x, ring = ("let", "x", ONE), ("again", ((PASS,),))
        ends = with_parts((PASS, set_x), queues=())
        waits = with_parts((("again", ((PASS,), (set_x, ("leave",)))),), queues=())
        self.assertIs(squeezed_alike(ends, with_parts((PASS, PASS, set_x, ring), queues=()), heard), True)
        self.assertEqual(squeezed_apart(ends, waits, heard), (((),), True))
        self.assertIs(is_squeezed_apart(ends, waits, heard, (((),), True)), True)
        self.assertIs(is_squeezed_apart(ends, waits, heard, (((),), False)), False)
        never = with_parts((PASS,), queues=())
        self.assertIs(is_squeezed_apart(ends, never, heard, (((), ("p",)), False)), True)
        self.assertIs(is_squeezed_apart(ends, never, heard, (((), ("p",)), True)), True)
        self.assertIs(squeezed_alike(ends, never, ()), True)
        for thing in JUNK + (
            ((), True), ((), False), (((), ("p",)), 1), (((), ("p",)), None), (((), ("p",)), "True"), (((), (), ("p",)), True), ([(), ("p",)], True),
            (((), ["p"]), True), [((), ("p",)), True], (((), ("p",)), True, True), (((), ("q",)), True), (((), ("p", "p")), False), ((("p",),), True),
            (((), ("p",), ()), False), (((), "p"), True),
        ):
            self.assertIs(is_squeezed_apart(ends, never, heard, thing), False, thing)

    def test_guarantees_of_edits(self):
        """With other names, at PLACES never come to, with a pass put in: what is told stays."""
        maker, counts = Maker(225), [0, 0, 0]
        for _ in range(250):
            system = maker.small(15, 2, parts=maker.random.randint(1, 2))
            heard = tuple([(word, ("same", ("cell", system[0][0][0]), ("number", at))) for at, word in enumerate("pq")])
            part, block = maker.pick(*system[2])
            if "stands" in repr(system) or "label" in repr(system):
                for name in [deed[1] for deed in deeds_of(system, part) if deed[0] == "label"]:
                    counts[0] += 1
                    self.assertIs(tell_alike(system, heard, edited(system, ("label", part, name, "new")), heard), True)
            self.assertIs(tell_alike(system, heard, edited(system, ("name", part, "zz")), heard), True)
            lost = [place for name, place in never_stood(system) if name == part]
            for number in [at for place in lost for at in steps_at(system, part, place)]:
                path = path_of(system, part, number)
                edit = ("replace", part, path, maker.pick(PASS, ("check", LOW), ("when", ("same", ONE, ONE))))
                if deed_with(system, part, path)[0] in ("pass", "let", "put", "get", "when", "check") and can_edit(system, edit):
                    counts[1] += 1
                    self.assertIs(tell_alike(system, heard, edited(system, edit), heard), True)
            for number, step in enumerate(steps_of(system, part)):
                path = path_of(system, part, number)
                if path[-1] > 0 or len(path) == 1:
                    if self.may_pass(system, part, step[0]) and self.is_free(system, part, path):
                        counts[2] += 1
                        later = edited(system, ("insert", part, path, PASS))
                        self.assertIs(squeezed_alike(system, later, heard), True, (system, part, path))
        self.assertGreater(min(counts), 10, counts)

    def may_pass(self, system, part, place):
        """Whether no label stands at the PLACE, and no STEP of it hands over."""
        rooms = {row[0]: row[1] for row in system[1]}
        deeds = [steps_of(system, part)[at][1] for at in steps_at(system, part, place)]
        labels = [deed for deed in deeds_of(system, part) if deed[0] == "label"]
        return labels == [] and not any([deed[0] in ("put", "get") and rooms[deed[1]] == 0 for deed in deeds])

    def is_free(self, system, part, path):
        """Whether no again, pick or once has its opener there."""
        return can_edit(system, ("insert", part, path, PASS)) and how_many_places(system, part) > 0

    def test_as_large_as_the_bounds_allow(self):
        one, other = free_clock((9, 9, 4)), free_clock((9, 9, 3))
        heard = (("w", ("same", ("cell", "z"), ("number", 0))),)
        self.assertIs(squeezed_alike(one, other, heard), True)
        full = (("w", ("same", ("cell", "z"), ("number", 0))), ("x", ("same", ("cell", "z"), ("number", 4))))
        found = squeezed_apart(one, other, full)
        self.assertIs(is_squeezed_apart(one, other, full, found), True)
        self.assertEqual((never_full(one), never_turned(one)), ((), ()))


class Kinds(Case):
    def test_each_error_is_one_of_the_package(self):
        for edit in (("drop", "z"), ("top", "x", 0), ("room", "z", 1)):
            with self.assertRaises(ModelError):
                edited(SAMPLE, edit)


if __name__ == "__main__":
    unittest.main()
