"""What a SYSTEM, a VALUE, a TEST, HEARD words, a block of a SYSTEM are."""

import unittest

from helper import JUNK, LOW, ONE, OTHER, SAMPLE, SET_X, TWO, Case, Maker, X, changed_things, deep
from helper import listed, with_parts
from runclaims.errors import NoPart
from runclaims.systems import is_block, is_heard, is_system, is_test, is_value

ELSE, LEAVE, PASS = ("else",), ("leave",), ("pass",)


class Frames(Case):
    def assert_no_system(self, *things):
        for thing in things:
            self.assertIs(is_system(thing), False, thing)

    def test_systems(self):
        for system in (
            SAMPLE, OTHER, ((), (), (("p", ()),)), ((("c", 1, 1),), (), (("p", ()), ("q", ()))),
            ((("c", 9, 9), ("d", 9, 0)), (("q", 0, 1), ("r", 3, 9)), (("p", ()),)),
        ):
            self.assertIs(is_system(system), True)

    def test_more_than_the_bounds_tell_is_a_system(self):
        names = [first + second for first in "abcde" for second in "vwxyz"]
        cells = tuple([(f"c{name}", 1, 0) for name in names])
        queues = tuple([(f"d{name}", 1, 1) for name in names])
        parts = tuple([(f"e{name}", (PASS,) * 100) for name in names])
        self.assertIs(is_system((cells, queues, parts)), True)
        value = X
        for _ in range(9):
            value = ("sum", value, X)
        block = (("let", "x", value),)
        for _ in range(6):
            block = (("pick", (block,)),) if block[0][0] != "pick" else (PASS, *block)
        self.assertIs(is_system(with_parts(block)), True)

    def test_no_systems(self):
        parts = (("p", ()),)
        self.assert_no_system(
            (), ((), ()), ((), (), ()), ((), (), (), parts), ((), (), parts, ()), [(), (), parts],
            ([], (), parts), ((), [], parts), ((), (), [("p", ())]), ((), (), (["p", ()],)),
            ((), (), (("p", []),)), ((), (), (("p", None),)), ((), (), (("p",),)),
            ((), (), (("p", (), ()),)), ((), (), (("P", ()),)), ((), (), (("put", ()),)),
            ((), (), (("abcdefghi", ()),)), ((), (), ((1, ()),)), (None, (), parts),
        )

    def test_cells(self):
        def cells(*rows):
            return (rows, (), (("p", ()),))
        for top, value in ((1, 0), (1, 1), (9, 9), (9, 0)):
            self.assertIs(is_system(cells(("c", top, value))), True)
        self.assert_no_system(
            cells(("c", 0, 0)), cells(("c", 10, 0)), cells(("c", 1, 2)), cells(("c", 1, -1)),
            cells(("c", -1, -1)), cells(("c", True, 0)), cells(("c", 1, False)), cells(("c", 1)),
            cells(("c", 1, True)), cells(("c", 1, None)), cells(("c", "1", 0)), cells(["c", 1, 0]),
            cells(("c", 1, 0, 0)), cells(("go", 1, 0)), cells(("d", 1, 0), ("c", 1, 0)),
            cells(("c", 1, 0), ("c", 1, 0)), cells(("c", 1, 0), ("c", 2, 0)), cells(None),
            cells(("c", 1, 0), ("", 1, 0)),
        )

    def test_queues(self):
        def queues(*rows):
            return ((), rows, (("p", ()),))
        for room, top in ((0, 1), (3, 1), (0, 9), (3, 9)):
            self.assertIs(is_system(queues(("q", room, top))), True)
        self.assert_no_system(
            queues(("q", -1, 1)), queues(("q", 4, 1)), queues(("q", 0, 0)), queues(("q", 0, 10)),
            queues(("q", False, 1)), queues(("q", 1, True)), queues(("q", 0)), queues(("q",)),
            queues(("r", 1, 1), ("q", 1, 1)), queues(("q", 1, 1), ("q", 1, 2)), queues(1),
        )

    def test_names_are_unlike_and_ascend(self):
        self.assert_no_system(
            ((("p", 1, 0),), (), (("p", ()),)), ((), (("p", 1, 1),), (("p", ()),)),
            ((("c", 1, 0),), (("c", 1, 1),), (("p", ()),)), ((), (), (("q", ()), ("p", ()))),
            ((), (), (("p", ()), ("p", ()))), ((), (), (("p", ()), ("p", (PASS,)))),
        )
        self.assertIs(is_system(((("z", 1, 0),), (("m", 1, 1),), (("a", ()),))), True)
        self.assertIs(is_system(((), (), (("a", ()), ("ab", ()), ("b", ())))), True)

    def test_junk(self):
        self.assert_no_system(*JUNK)
        for junk in [thing for thing in JUNK if thing not in ((), PASS, (("x", 1, 0),))]:
            self.assert_no_system(
                (junk, (), (("p", ()),)), ((), junk, (("p", ()),)), ((), (), junk),
                ((), (), (("p", junk),)), ((), (), (("p", (PASS, junk, PASS)),)),
                ((), (), ((junk, ()),)) if junk not in ("x", "word") else junk,
            )
        self.assert_no_system(listed(SAMPLE), list(SAMPLE))

    def test_what_is_near_a_system_is_told_without_fail(self):
        for thing in changed_things(SAMPLE):
            self.assertIn(is_system(thing), (True, False))
        for system in (SAMPLE, OTHER):
            for at in range(3):
                self.assert_no_system(system[:at] + (list(system[at]),) + system[at + 1:])

    def test_made_at_random_are_systems(self):
        maker = Maker(1)
        for _ in range(30):
            system = maker.system(3, 4)
            self.assertIs(is_system(system), True)
            self.assertIs(is_system(listed(system)), False)


class Values(Case):
    def test_values(self):
        for thing in (
            ("number", 0), ("number", 9), X, ("cell", "y"), ("sum", X, X), ("gap", ONE, X),
            ("times", ("sum", X, ONE), ("gap", X, ("times", X, TWO))),
        ):
            self.assertIs(is_value(SAMPLE, thing), True)

    def test_no_values(self):
        for thing in JUNK + (
            ("number", -1), ("number", 10), ("number", False), ("number", "1"), ("number",),
            ("number", 1, 1), ("cell", "z"), ("cell", "q"), ("cell", "a"), ("cell", "top"),
            ("cell", 1), ("cell", ["x"]), ("cell", "x", "x"), ["cell", "x"], ("sum", X),
            ("sum", X, X, X), ("sum", X, ("cell", "z")), ("sum", list(X), X), ("minus", X, X),
            ("same", X, X), (["sum"], X, X), X[:1], (X, X), ("gap", X, None),
        ):
            self.assertIs(is_value(SAMPLE, thing), False, thing)

    def test_deep_values(self):
        value, other = X, X
        for _ in range(28):
            value, other = ("sum", value, ONE), ("sum", ONE, other)
        self.assertIs(is_value(SAMPLE, value), True)
        self.assertIs(is_value(SAMPLE, other), True)
        for _ in range(20):
            value = ("gap", value, ("cell", "z"))
        self.assertIs(is_value(SAMPLE, value), False)
        self.assertIs(is_value(SAMPLE, deep(30)), False)

    def test_cells_are_those_of_the_system(self):
        self.assertIs(is_value(OTHER, X), False)
        self.assertIs(is_value(OTHER, ("cell", "d")), True)


class Tests(Case):
    def test_tests(self):
        full = ("full", "q")
        for thing in (
            ("same", X, ONE), LOW, ("empty", "q"), full, ("stands", "a", "top"), ("not", full),
            ("and", full, LOW), ("or", ("not", LOW), ("and", full, full)),
        ):
            self.assertIs(is_test(SAMPLE, thing), True)

    def test_no_tests(self):
        for thing in JUNK + (
            X, ("same", X), ("same", X, LOW), ("less", ("cell", "z"), X), ("empty", "x"),
            ("full", "r"), ("empty", ("q",)), ("full", "q", "q"), ["full", "q"], ("stands", "a"),
            ("stands", "b", "top"), ("stands", "a", "end"), ("stands", "top", "a"),
            ("stands", ["a"], "top"), ("stands", "a", "top", 1), ("not", X), ("not", LOW, LOW),
            ("and", LOW), ("or", LOW, X), ("or", LOW, list(LOW)), ("and", LOW, LOW, LOW),
            ("xor", LOW, LOW), ("not",), ("stands", "a", None), (None, LOW, LOW),
        ):
            self.assertIs(is_test(SAMPLE, thing), False, thing)

    def test_only_queues_with_room_can_be_asked_for(self):
        for word in ("empty", "full"):
            self.assertIs(is_test(OTHER, (word, "r")), True)
            self.assertIs(is_test(OTHER, (word, "h")), False)
            self.assertIs(is_system(with_parts((("when", (word, "q")),))), True)
            self.assertIs(is_system(with_parts((("when", ("not", (word, "h"))),))), False)

    def test_deep_tests(self):
        test = LOW
        for _ in range(27):
            test = ("not", test)
        self.assertIs(is_test(SAMPLE, test), True)
        self.assertIs(is_test(OTHER, test), False)

    def test_heard_words(self):
        for thing in (
            (), (("b", LOW),), (("b", LOW), ("w", LOW)), (("x", LOW),), (("a", LOW), ("b", LOW)),
        ):
            self.assertIs(is_heard(SAMPLE, thing), True)
        for thing in (
            [], (("w", LOW), ("b", LOW)), (("b", LOW), ("b", LOW)), (("b", LOW), ("b", TWO)),
            (("b", X),), (("b",),), (("b", LOW, LOW),), (["b", LOW],), (("B", LOW),), (LOW,),
            (("go", LOW),), (("b", ("empty", "h")),), (("b", list(LOW)),), ("b", LOW), ((1, LOW),),
            (("b", ("stands", "b", "top")),), (("b", None),),
        ):
            self.assertIs(is_heard(SAMPLE, thing), False, thing)
        for junk in JUNK:
            self.assertIs(is_heard(SAMPLE, junk), junk == () and isinstance(junk, tuple))


class Deeds(Case):
    def assert_blocks(self, wanted, *blocks):
        """Whether these are blocks of part b, beside a part a with the label l."""
        system = with_parts((("label", "l"), PASS), ())
        for block in blocks:
            self.assertIs(is_block(system, "b", block), wanted, block)
            self.assertIs(is_system((*system[:2], (system[2][0], ("b", block)))), wanted, block)

    def test_least_deeds(self):
        stands = ("stands", "a", "l")
        self.assert_blocks(
            True, (), (PASS,), (SET_X,), (("put", "q", X),), (("put", "h", X),),
            (("get", "q", "x"),), (("get", "h", "y"),), (("when", LOW),), (("check", LOW),),
            (("when", stands),), (("label", "l"),), (("label", "l"), ("go", "l")),
            (("go", "m"), ("label", "m")), (("label", "x"),), (("label", "q"), ("label", "b")),
        )
        self.assert_blocks(
            False, PASS, [PASS], (list(PASS),), ("pass",), (("pass", "x"),), (("let", "x"),),
            (("let", "z", ONE),), (("let", "q", ONE),), (("let", "x", LOW),), (("let", X, X),),
            (("put", "x", X),), (("put", "q", "x"),), (("put", "q"),), (("get", "x", "q"),),
            (("get", "q", X),), (("get", "q", "z"),), (("get", "r", "x"),), (("when", X),),
            (("when",),), (("check", ONE),), (("label",),), (("label", "Go"),), (("label", 1),),
            (("label", "go"),), (("label", None),), (("label", ["l"]),), (("go", "l"),),
            (("go", ["l"]),), (("label", "l"), ("label", "l")), (LEAVE,), (ELSE,), (PASS, ELSE),
            (("stop",),), ((),), (("when", ("stands", "b", "l")),), (None,), (PASS, True),
        )

    def test_blocks_in_deeds(self):
        self.assert_blocks(
            True, (("pick", ((PASS,),)),), (("pick", ((PASS,), (SET_X, PASS))),),
            (("again", ((PASS,),)),), (("once", (PASS,)),), (("pick", ((("go", "l"),),)), ("label", "l")),
            (("pick", ((PASS, ("label", "l")),)),), (("pick", ((PASS, ("pick", ((PASS,),))),)),),
            (("again", ((PASS, ("again", ((LEAVE,),))),)),), (("again", ((("once", (PASS,)),),)),),
            (("once", (PASS, ("pick", ((PASS,), (ELSE,))))),),
        )
        self.assert_blocks(
            False, (("pick", ()),), (("pick", ((),)),), (("pick", ((PASS,), ())),), (("pick", (PASS,)),),
            (("pick", [(PASS,)]),), (("pick", ([PASS],)),), (("pick",),), (("pick", None),),
            (("again", ()),), (("again", ((),)),), (("again", (PASS,)),), (("once", ()),),
            (("once", ((PASS,),)),), (("once", [PASS]),), (("once", None),), (("once",),),
            (("pick", ((PASS,),), ((PASS,),)),), (("once", (PASS,), (PASS,)),),
        )

    def test_openers(self):
        label, pick, again = ("label", "l"), ("pick", ((PASS,),)), ("again", ((PASS,),))
        once = ("once", (PASS,))
        for word in ("pick", "again"):
            for opener in (label, pick, again):
                self.assert_blocks(False, ((word, ((opener, PASS),)),), ((word, ((PASS,), (opener,))),))
                self.assert_blocks(True, (opener, (word, ((PASS,),))))
                if opener != label:
                    self.assert_blocks(True, ((word, ((PASS, opener),)),))
            self.assert_blocks(True, ((word, ((once,),)),), ((word, ((PASS,), (once, PASS))),))
        self.assert_blocks(False, (("once", (pick,)),), (("once", (again, PASS)),))
        self.assert_blocks(False, (("pick", ((("once", (pick,)),),)),))

    def test_leaves(self):
        def again(*deeds):
            return ("again", (deeds,))
        self.assert_blocks(
            True, (again(LEAVE),), (again(PASS, ("pick", ((LEAVE,), (PASS, LEAVE)))),),
            (again(PASS, again(LEAVE), LEAVE),), (("once", (PASS, again(LEAVE))),),
            (("once", (PASS, again(PASS, ("pick", ((LEAVE,),))))),),
            (again(("once", (PASS, again(LEAVE))), LEAVE),),
        )
        self.assert_blocks(
            False, (LEAVE,), (again(PASS), LEAVE), (("pick", ((LEAVE,),)),), (("once", (LEAVE,)),),
            (again(("once", (LEAVE,))),), (again(("once", (PASS, ("pick", ((LEAVE,),))))),),
            (again(("once", (PASS, again(LEAVE), LEAVE))),), (again(LEAVE + (1,)),),
        )

    def test_within_a_once(self):
        once = ("once", (PASS,))
        self.assert_blocks(
            False, (("once", (once,)),), (("once", (PASS, once)),), (("once", (PASS, ("label", "l"))),),
            (("label", "l"), ("once", (("go", "l"),))), (("once", (PASS, ("pick", ((once,),)))),),
            (("label", "l"), ("once", (PASS, ("again", ((PASS, ("go", "l")),))))),
            (("once", (PASS, ("pick", ((PASS, ("label", "l")),)))),),
        )
        self.assert_blocks(True, (once, once), (("pick", ((once, once), (once,))),))

    def test_elses(self):
        for word in ("pick", "again"):
            self.assert_blocks(
                True, ((word, ((PASS,), (ELSE,))),), ((word, ((PASS,), (PASS,), (ELSE, PASS))),),
                (("once", (PASS, (word, ((PASS,), (ELSE,))))),),
                ((word, ((PASS, (word, ((PASS,), (ELSE,)))), (ELSE,))),),
            )
            self.assert_blocks(
                False, ((word, ((ELSE,),)),), ((word, ((ELSE,), (PASS,))),), ((word, ((PASS,), (PASS, ELSE))),),
                ((word, ((ELSE,), (ELSE,))),), ((word, ((PASS,), (ELSE, ELSE))),), (ELSE,),
                ((word, ((PASS,), (("once", (ELSE,)),))),), (("once", (PASS, ELSE)),), (PASS, ELSE),
            )

    def test_blocks_that_others_ask_for(self):
        asking = ("when", ("stands", "a", "l"))
        system = with_parts((("label", "l"), PASS), (asking,))
        self.assertIs(is_block(system, "a", (PASS, ("pick", ((PASS, ("label", "l")),)))), True)
        self.assertIs(is_block(system, "a", (("label", "m"), PASS)), False)
        self.assertIs(is_block(system, "a", ()), False)
        self.assertIs(is_block(system, "b", ()), True)

    def test_a_part_that_is_none_is_told_whatever_thing_is(self):
        for thing in JUNK:
            self.assert_raises(NoPart, {"name": "x"}, is_block, SAMPLE, "x", thing)
            self.assertIs(is_block(SAMPLE, "b", thing), thing in ((), (PASS,)) and
                          isinstance(thing, tuple))


if __name__ == "__main__":
    unittest.main()
