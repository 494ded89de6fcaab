"""The class Board: its deeds, what it tells of its SYSTEMS, undo, twins."""

import copy
import unittest

from goings import Goings
from helper import LOW, ONE, OTHER, SAMPLE, X, Case, free_clock, listed, with_parts
from likes import some_edit
from papers import Said, small_systems, some_claims
from runclaims.board import Board
from runclaims.claims import is_claim, stands
from runclaims.edits import edited
from runclaims.errors import Known, ModelError, NoPart, NoSystem, NotReady, NothingDone, Unfit
from runclaims.states import last_state, ready

PASS, MOVES, CHECKED = ("pass",), ("moves",), ("checked",)
COUNT = ("let", "x", ("sum", X, ONE))
CLOCK = ((("x", 2, 0),), (), (("a", (("again", ((COUNT,),)),)),))
LINE = with_parts((COUNT, COUNT), (PASS,))
ZERO, TWO = ("same", X, ("number", 0)), ("same", X, ("number", 2))
ASKED = ("turns", "state", "claims", "standing", "lost", "sure")


def is_small(system, turns):
    said = Said(system, turns)
    return len([turn for state in said.states for turn in said.goings.ready(state)]) < 40


class Boards(Case):
    def assert_is(self, board, rows, past):
        self.assertEqual((board.names, board.deeds, len(board)), (tuple(sorted(rows)), len(past), len(rows)))
        for name in ("s", "t", "u", "v"):
            self.assertIs(name in board, name in rows)
        for name, (system, turns, claims) in rows.items():
            self.assertEqual(board[name], system)
            self.assertEqual((board.turns(name), board.claims(name)), (tuple(turns), tuple(sorted(claims))))
            self.assertEqual(board.state(name), last_state(system, turns))
            own = [claim for claim in sorted(claims) if is_claim(system, claim)]
            self.assertEqual(board.lost(name), tuple([claim for claim in sorted(claims) if claim not in own]))
            self.assertEqual(board.standing(name), tuple([claim for claim in own if stands(system, claim)]))
            if is_small(system, turns):
                said = Said(system, tuple(turns))
                self.assertEqual(board.sure(name), tuple([claim for claim in own if said.stands(claim)]), (system, turns))

    def test_deeds(self):
        refused, done = set(), set()
        for maker, system in small_systems(251, 50, 8):
            board, rows, past = Board(), {}, []
            systems = [system, CLOCK, LINE]
            for _ in range(35):
                deed = maker.pick("put", "drop", "rename", "edit", "edit", "turn", "turn", "turn", "keep", "keep", "free", "free", "undo", "twin")
                name, new = maker.pick("s", "t", "u"), maker.pick("s", "t", "u")
                call, wanted, error = getattr(board, deed), copy.deepcopy(rows), None
                given = (name,)
                if deed == "twin":
                    board = board.twin()
                    continue
                if deed == "undo":
                    if past:
                        self.assertIsNone(board.undo())
                        rows = past.pop()
                    else:
                        self.assert_raises(NothingDone, {}, board.undo)
                    self.assert_is(board, rows, past)
                    continue
                if deed == "put":
                    given = (name, maker.pick(*systems))
                    if name in rows:
                        error = Known
                    else:
                        wanted[name] = [given[1], [], []]
                elif name not in rows:
                    error = NoSystem
                    given = {"rename": (name, new), "drop": (name,)}.get(deed, (name, ("moves",)))
                elif deed == "drop":
                    del wanted[name]
                elif deed == "rename":
                    given = (name, new)
                    if new in rows and new != name:
                        error, name = Known, new
                    else:
                        wanted[new] = wanted.pop(name)
                elif deed == "edit":
                    given = (name, some_edit(maker, rows[name][0]))
                    try:
                        wanted[name] = [edited(rows[name][0], given[1]), [], rows[name][2]]
                        if len(Goings(wanted[name][0]).all_states(13)) > 12:
                            continue
                    except ModelError as caught:
                        error = type(caught)
                elif deed == "turn":
                    given = (name, maker.pick(*ready(rows[name][0], last_state(rows[name][0], rows[name][1])), (0, 9)))
                    if given[1] == (0, 9):
                        error = NotReady
                    else:
                        wanted[name][1].append(given[1])
                elif deed == "keep":
                    given = (name, maker.pick(*some_claims(maker, maker.pick(system, rows[name][0]), 3)))
                    if not is_claim(rows[name][0], given[1]):
                        error = Unfit
                    elif given[1] not in wanted[name][2]:
                        wanted[name][2].append(given[1])
                else:
                    given = (name, maker.pick(MOVES, *rows[name][2], *rows[name][2]))
                    if given[1] in rows[name][2]:
                        wanted[name][2].remove(given[1])
                    else:
                        error = Unfit
                if error is None:
                    done.add(deed)
                    self.assertIsNone(call(*given) if maker.pick(0, 1) else call(*[listed(one) for one in given]))
                    past.append(rows)
                    rows = wanted
                else:
                    refused.add((deed, error))
                    told = {"name": name} if error in (Known, NoSystem) else {}
                    self.assert_raises(error, told, call, *given)
                self.assert_is(board, rows, past)
            while past:
                board.undo()
                rows = past.pop()
                self.assert_is(board, rows, past)
        self.assertEqual(done, {"put", "drop", "rename", "edit", "turn", "keep", "free"})
        self.assertGreater(len(refused), 9, refused)

    def test_without_any_system(self):
        board = Board()
        self.assertEqual((board.names, board.deeds, len(board), "s" in board), ((), 0, 0, False))
        self.assert_raises(NothingDone, {}, board.undo)
        self.assertTrue(board == Board())
        for name in ASKED + ("drop",):
            self.assert_raises(NoSystem, {"name": "s"}, getattr(board, name), "s")
            self.assert_raises(NoSystem, {"name": "s"}, getattr(board, name), name="s")
        for name in ("edit", "spoilt_by", "mended_by"):
            self.assert_raises(NoSystem, {"name": "s"}, getattr(board, name), "s", ("drop", "z"))
            self.assert_raises(NoSystem, {"name": "s"}, getattr(board, name), name="s", edit=["drop", "z"])
        for name, value in (("turn", (9, 9)), ("keep", ("moves", "x")), ("free", MOVES), ("rename", "t")):
            self.assert_raises(NoSystem, {"name": "s"}, getattr(board, name), "s", value)
        with self.assertRaises(NoSystem) as caught:
            board["s"]
        self.assertEqual(vars(caught.exception), {"name": "s"})

    def test_four_systems_and_forty_deeds(self):
        board = Board()
        for name in ("d", "b", "c", "a"):
            board.put(name=name, system=CLOCK)
        for _ in range(36):
            board.turn(name="a", turn=[0, 0])
        self.assertEqual((board.names, board.deeds, len(board)), (("a", "b", "c", "d"), 40, 4))
        self.assertEqual(board.turns("a"), ((0, 0),) * 36)
        for _ in range(40):
            board.undo()
        self.assertEqual((board.names, board.deeds), ((), 0))
        self.assertTrue(board == Board())

    def test_names(self):
        board = Board()
        board.put("s", CLOCK)
        board.put("t", LINE)
        board.turn("s", (0, 0))
        self.assert_raises(Known, {"name": "s"}, board.put, "s", LINE)
        self.assert_raises(Known, {"name": "t"}, board.rename, "s", "t")
        self.assertIsNone(board.rename(name="s", new="s"))
        self.assertEqual((board.names, board.deeds, board.turns("s")), (("s", "t"), 4, ((0, 0),)))
        board.rename("s", "u")
        self.assertEqual((board.names, board.turns("u"), board["u"]), (("t", "u"), ((0, 0),), CLOCK))
        self.assert_raises(NoSystem, {"name": "s"}, board.state, "s")
        board.undo()
        board.undo()
        board.undo()
        self.assertEqual((board.names, board.turns("s"), board.deeds), (("s", "t"), (), 2))

    def test_equal_and_twins(self):
        board, other = Board(), Board()
        board.put("s", CLOCK)
        self.assertTrue(board != other)
        other.put("t", CLOCK)
        self.assertTrue(board != other)
        other.rename("t", "s")
        self.assertTrue(board == other)
        self.assertFalse(board != other)
        for name, value in (("turn", (0, 0)), ("keep", MOVES), ("edit", ("value", "x", 1))):
            getattr(board, name)("s", value)
            self.assertFalse(board == other)
            board.undo()
            self.assertTrue(board == other)
        for thing in (None, 0, (), {}, "s", True):
            self.assertFalse(board == thing)
            self.assertTrue(board != thing)
        board.keep("s", MOVES)
        twin = board.twin()
        self.assertTrue(twin == board)
        self.assertEqual(twin.deeds, board.deeds)
        twin.undo()
        twin.undo()
        self.assertEqual((board.claims("s"), twin.names, board.deeds), ((MOVES,), (), 2))
        board.turn("s", (0, 0))
        board.drop("s")
        board.undo()
        self.assertEqual((board.turns("s"), len(twin)), (((0, 0),), 0))

    def test_no_setters_no_iteration_and_copies(self):
        board = Board()
        given = listed(CLOCK)
        board.put("s", given)
        given[2].clear()
        self.assertEqual(board["s"], CLOCK)
        for name in ("names", "deeds"):
            with self.assertRaises(AttributeError):
                setattr(board, name, ())
        for call in (iter, list, tuple, sorted):
            with self.assertRaises(TypeError):
                call(board)


class Told(Case):
    def test_sure_behind_turns(self):
        board = Board()
        board.put("s", LINE)
        word, formulas = (("z", ZERO),), {}
        for text, formula in (("soon", ("ever", ("not", ("word", "z")))), ("first", ("word", "z")), ("next", ("next", ("word", "z")))):
            formulas[text] = ("keeps", word, formula, ("none", "none"))
            board.keep("s", formulas[text])
        for claim in (("always", LOW), ("can", TWO), ("back", ZERO), MOVES, CHECKED):
            board.keep("s", claim)
        self.assertEqual(set(board.sure("s")), set(board.standing("s")))
        self.assertEqual(set(board.standing("s")), {formulas["soon"], formulas["first"], ("can", TWO), MOVES, CHECKED})
        board.turn("s", (1, 0))
        self.assertEqual(set(board.sure("s")), set(formulas.values()) | {("can", TWO), MOVES, CHECKED})
        board.undo()
        board.turn("s", (0, 0))
        self.assertEqual(set(board.sure("s")), {formulas["soon"], formulas["first"], ("can", TWO), MOVES, CHECKED})
        self.assertEqual(set(board.standing("s")), {formulas["soon"], formulas["first"], ("can", TWO), MOVES, CHECKED})

    def test_states_on_the_way_are_come_to(self):
        block = (("pick", ((("let", "x", ONE),), (("check", ZERO), ("let", "x", ("number", 3))))),)
        board = Board()
        board.put("s", with_parts(block, cells=(("x", 3, 0),), queues=()))
        for claim in (("can", ZERO), ("can", ("same", X, ("number", 3))), ("always", LOW), ("back", ("same", X, ONE))):
            board.keep("s", claim)
        self.assertEqual(board.sure("s"), (("can", ("same", X, ("number", 0))), ("can", ("same", X, ("number", 3)))))
        board.turn("s", (0, 0))
        self.assertEqual(board.sure("s"), (("always", LOW), ("back", ("same", X, ONE)), ("can", ZERO)))
        # A check that a TURN so far has broken stays broken.
        look = with_parts((("pick", ((("check", TWO),), (PASS,))),), cells=(("x", 3, 0),), queues=())
        for turn, wanted in (((0, 0), ()), ((0, 1), (CHECKED,))):
            board = Board()
            board.put("s", look)
            board.keep("s", CHECKED)
            board.turn("s", turn)
            self.assertEqual((board.sure("s"), board.standing("s")), (wanted, ()))

    def test_a_turn_makes_nothing_unsure(self):
        for maker, system in small_systems(252, 40, 8):
            board = Board()
            board.put("s", system)
            for claim in some_claims(maker, system, 4):
                board.keep("s", claim)
            before = board.sure("s")
            self.assertEqual(before, board.standing("s"))
            for _ in range(5):
                board.turn("s", maker.pick(*ready(system, board.state("s"))))
                after = board.sure("s")
                self.assertEqual([claim for claim in before if claim[0] != "can" and claim not in after], [])
                self.assertEqual([claim for claim in after if claim[0] == "can" and claim not in before], [])
                before = after

    def test_what_an_edit_spoils_and_mends(self):
        some = [0, 0, 0]
        for maker, system in small_systems(253, 60, 8):
            board = Board()
            board.put("s", system)
            for claim in some_claims(maker, system, 5):
                board.keep("s", claim)
            for _ in range(6):
                edit = some_edit(maker, system)
                try:
                    later = edited(system, edit)
                except ModelError as caught:
                    self.assert_raises(type(caught), vars(caught), board.spoilt_by, "s", edit)
                    self.assert_raises(type(caught), vars(caught), board.mended_by, "s", listed(edit))
                    continue
                if len(Goings(later).all_states(13)) > 12:
                    continue
                now = {claim for claim in board.claims("s") if is_claim(system, claim) and stands(system, claim)}
                then = {claim for claim in board.claims("s") if is_claim(later, claim) and stands(later, claim)}
                self.assertEqual(board.spoilt_by("s", edit), tuple(sorted(now - then)))
                self.assertEqual(board.mended_by("s", listed(edit)), tuple(sorted(then - now)))
                some[0] += now - then != set()
                some[1] += then - now != set()
                twin = board.twin()
                twin.edit("s", edit)
                self.assertEqual(set(twin.standing("s")), then)
                some[2] += twin.lost("s") != ()
        self.assertGreater(min(some[:2]), 5, some)

    def test_claims_that_are_none_behind_an_edit(self):
        board = Board()
        board.put("s", SAMPLE)
        claims = (("always", LOW), ("can", ("stands", "a", "top")), ("keeps", (), ("true",), ("none", "none")), MOVES)
        for claim in claims:
            board.keep("s", claim)
        self.assertEqual(board.spoilt_by("s", ("drop", "b")), (("keeps", (), ("true",), ("none", "none")),))
        self.assertEqual(board.lost("s"), ())
        board.edit("s", ("drop", "b"))
        self.assertEqual(board.lost("s"), (("keeps", (), ("true",), ("none", "none")),))
        self.assertEqual(board.claims("s"), claims)
        board.edit("s", ("name", "x", "z"))
        self.assertEqual(board.lost("s"), (("always", LOW), ("keeps", (), ("true",), ("none", "none"))))
        self.assertEqual(board.mended_by("s", ("part", "b", ())), (("keeps", (), ("true",), ("none", "none")),))
        self.assert_raises(Unfit, {}, board.keep, "s", ("always", LOW))
        self.assertIsNone(board.free("s", ["always", list(LOW)]))
        self.assert_raises(Unfit, {}, board.free, "s", ("always", LOW))
        self.assert_raises(Unfit, {}, board.edit, "s", ("drop", "z"))
        self.assert_raises(NoPart, {"name": "b"}, board.edit, name="s", edit=("drop", "b"))
        board.edit("s", ("label", "a", "top", "low"))
        self.assertEqual(board.lost("s"), (("can", ("stands", "a", "top")), ("keeps", (), ("true",), ("none", "none"))))
        self.assertEqual((board.turns("s"), board.sure("s")), ((), (MOVES,) if stands(board["s"], MOVES) else ()))

    def test_turns(self):
        board = Board()
        board.put("s", OTHER)
        self.assert_raises(NotReady, {}, board.turn, "s", ())
        self.assert_raises(NotReady, {}, board.turn, "s", (0, 0))
        self.assertIsNone(board.turn("s", [0, 0, 1, 0]))
        self.assertEqual((board.turns("s"), board.state("s")), (((0, 0, 1, 0),), last_state(OTHER, ((0, 0, 1, 0),))))
        board.edit("s", ("value", "d", 3))
        self.assertEqual(board.turns("s"), ())
        board.undo()
        self.assertEqual(board.turns("s"), ((0, 0, 1, 0),))
        while ready(OTHER, board.state("s")) != ((),):
            board.turn("s", ready(OTHER, board.state("s"))[0])
        board.turn("s", ())
        board.turn("s", ())
        self.assertEqual(board.turns("s")[-2:], ((), ()))

    def test_as_large_as_the_bounds_allow(self):
        board, system = Board(), free_clock((9, 9, 4))
        heard = (("w", ("same", ("cell", "z"), ONE)),)
        claims = (
            ("always", ("less", ("cell", "z"), ("number", 5))), ("can", ("same", X, ("number", 9))), ("back", ("same", ("cell", "z"), ONE)), MOVES, CHECKED,
            ("keeps", heard, ("always", ("ever", ("word", "w"))), ("none", "weak", "strong")),
        )
        board.put("s", system)
        for claim in claims:
            board.keep("s", claim)
        for turn in ((0, 0), (1, 0), (2, 0)) * 10:
            board.turn("s", turn)
        self.assertEqual(len(board.standing("s")), 6)
        self.assertEqual(len(board.sure("s")), 6)
        self.assertEqual(board.spoilt_by("s", ("remove", "c", (0,))), (claims[2], claims[5]))


if __name__ == "__main__":
    unittest.main()
