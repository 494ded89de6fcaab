"""What stands in a SYSTEM, and how one is made from another."""

import unittest

from helper import LOW, ONE, OTHER, SAMPLE, SET_X, TWO, Case, Maker, X, Y, with_parts
from runclaims.errors import Known, NoCell, NoLabel, NoPart, NoQueue, Unfit
from runclaims import systems
from runclaims.systems import (
    asks_labels, beside, block_of, cell_names, cell_row, deeds_of, fitted, gets_from, is_system,
    labels_of, lets, part_names, partners, puts_into, queue_names, queue_row, reads, relabelled,
    renamed, shared_cells, spare_names, value_cells, with_block, with_cell, with_first, with_part,
    with_queue, with_room, without,
)

PASS = ("pass",)
STANDS = ("stands", "a", "l")
BY_PART = (block_of, labels_of, deeds_of, reads, lets, puts_into, gets_from, asks_labels, partners)


class Asked(Case):
    def test_names_and_rows(self):
        self.assertEqual(cell_names(SAMPLE), ("x", "y"))
        self.assertEqual(queue_names(OTHER), ("h", "r"))
        self.assertEqual(part_names(OTHER), ("give", "take"))
        least = ((), (), (("p", ()),))
        self.assertEqual((cell_names(least), queue_names(least)), ((), ()))
        self.assertEqual(cell_row(OTHER, "d"), ("d", 9, 2))
        self.assertEqual(queue_row(OTHER, "r"), ("r", 2, 9))
        self.assertEqual(block_of(SAMPLE, "a"), SAMPLE[2][0][1])
        self.assertEqual(block_of(least, "p"), ())

    def test_what_is_not_there(self):
        for name in ("z", "", "q", "go", "top", "X"):
            self.assert_raises(NoCell, {"name": name}, cell_row, SAMPLE, name)
        self.assert_raises(NoQueue, {"name": "x"}, queue_row, SAMPLE, "x")
        for call in BY_PART:
            for name in ("x", "q", "", "part", "aa"):
                self.assert_raises(NoPart, {"name": name}, call, SAMPLE, name)

    def test_labels(self):
        block = (
            ("label", "z"), ("pick", ((PASS, ("label", "b")), (PASS, ("again", ((PASS, ("label", "a")),))))),
            ("label", "c"),
        )
        self.assertEqual(labels_of(with_parts(block), "a"), ("a", "b", "c", "z"))
        self.assertEqual(labels_of(SAMPLE, "b"), ())

    def test_fitted(self):
        told = [fitted(number, 3) for number in (-9, -5, -4, -1, 0, 3, 4, 7, 8, 10 ** 20)]
        self.assertEqual(told, [3, 3, 0, 3, 0, 3, 0, 3, 0, 0])
        self.assertEqual([fitted(number, 1) for number in (-1, 0, 1, 2)], [1, 0, 1, 0])
        self.assertEqual(fitted(10, 9), 0)

    def test_deeds(self):
        inner = ("pick", ((PASS, SET_X), (("else",),)))
        once = ("once", (PASS, inner))
        block = (("again", ((once, PASS), (("leave",),))), SET_X)
        wanted = (
            block[0], once, PASS, inner, PASS, SET_X, ("else",), PASS, ("leave",), SET_X,
        )
        self.assertEqual(deeds_of(with_parts(block), "a"), wanted)
        self.assertEqual(deeds_of(with_parts(()), "a"), ())

    def test_cells_of_values(self):
        self.assertEqual(value_cells(("number", 3)), ())
        self.assertEqual(value_cells(("times", Y, ("sum", X, ("gap", Y, ONE)))), ("x", "y"))

    def test_what_tests_ask_for(self):
        test = ("or", ("and", ("full", "r"), ("less", Y, ("sum", X, Y))),
                ("not", ("or", ("stands", "b", "m"), ("and", ("empty", "q"), STANDS))))
        self.assertEqual(systems.test_cells(test), ("x", "y"))
        self.assertEqual(systems.test_queues(test), ("q", "r"))
        self.assertEqual(systems.test_labels(test), (("a", "l"), ("b", "m")))
        same = ("or", ("same", X, X), ("and", STANDS, STANDS))
        self.assertEqual(systems.test_cells(same), ("x",))
        self.assertEqual((systems.test_queues(same), systems.test_labels(same)), ((), (("a", "l"),)))
        self.assertEqual(systems.test_cells(("empty", "q")), ())

    def test_reads_and_lets(self):
        nest = ("pick", ((("when", LOW), ("once", (("put", "q", Y),))), (("check", ("full", "q")),)))
        system = with_parts((nest,), (("let", "y", ONE), ("get", "q", "x")), (("let", "x", X),))
        self.assertEqual([reads(system, part) for part in "abc"], [("x", "y"), (), ("x",)])
        self.assertEqual([lets(system, part) for part in "abc"], [(), ("x", "y"), ("x",)])
        self.assertEqual([puts_into(system, part) for part in "abc"], [("q",), (), ()])
        self.assertEqual([gets_from(system, part) for part in "abc"], [(), ("q",), ()])

    def test_asked_labels(self):
        both = ("and", ("stands", "b", "m"), ("not", STANDS))
        system = with_parts(
            (("label", "l"), ("when", STANDS)), (("label", "m"), ("pick", ((("check", both),),))),
        )
        self.assertEqual(asks_labels(system, "a"), (("a", "l"),))
        self.assertEqual(asks_labels(system, "b"), (("a", "l"), ("b", "m")))

    def test_shared_cells(self):
        get_y = ("get", "q", "y")
        for blocks, wanted in (
            (((SET_X,), (SET_X,)), ("x",)), (((SET_X,), (("when", LOW),)), ("x",)),
            (((("when", LOW),), (("when", LOW),)), ()), (((SET_X, SET_X), (PASS,)), ()),
            (((get_y,), (("put", "q", Y),)), ("y",)), (((get_y, SET_X),), ()),
            (((("let", "x", X),), ()), ()), (((("let", "x", Y),), (get_y, ("let", "y", X))), ("x", "y")),
            ((((("let", "y", X)),), (("let", "y", X),)), ("y",)),
        ):
            self.assertEqual(shared_cells(with_parts(*blocks)), wanted, blocks)

    def test_spare_names(self):
        self.assertEqual(spare_names(with_parts(())), ("h", "q", "x", "y"))
        self.assertEqual(spare_names(with_parts((SET_X,), (("put", "h", ONE),))), ("q", "y"))
        self.assertEqual(spare_names(with_parts((("get", "q", "y"), ("check", LOW)))), ("h",))
        self.assertEqual(spare_names(with_parts((("when", ("not", ("full", "q"))),))), ("h", "x", "y"))
        self.assertEqual(spare_names(with_parts((("label", "x"), ("go", "x")))), ("h", "q", "x", "y"))

    def test_partners(self):
        put, get = ("put", "h", ONE), ("get", "h", "x")
        system = with_parts((put,), (("pick", ((get,),)),), (put, get))
        told = [partners(system, part) for part in "abc"]
        self.assertEqual(told, [("b", "c"), ("a", "c"), ("a", "b")])
        self.assertEqual(partners(with_parts((put, get)), "a"), ())
        roomy = with_parts((("put", "q", ONE),), (("get", "q", "x"),))
        self.assertEqual(partners(roomy, "a"), ())
        self.assertEqual(partners(with_room(roomy, "q", 0), "a"), ("b",))
        self.assertEqual(partners(with_parts((put,), (put,)), "a"), ())


class Made(Case):
    def test_one_cell_more(self):
        made = with_cell(SAMPLE, "w", 2, 1)
        self.assertEqual(made[0], (("w", 2, 1), ("x", 3, 0), ("y", 3, 0)))
        self.assertEqual(made[1:], SAMPLE[1:])
        self.assertEqual(with_cell(SAMPLE, "xa", 9, 9)[0][1], ("xa", 9, 9))
        for name, top, number in (
            ("w", 0, 0), ("w", 10, 0), ("w", 1, 2), ("w", 1, -1), ("", 1, 0), ("go", 1, 0),
            ("abcdefghi", 1, 0), ("W", 1, 0), ("w", -1, -1),
        ):
            self.assert_raises(Unfit, {}, with_cell, SAMPLE, name, top, number)
        for name in ("x", "q", "a"):
            self.assert_raises(Known, {"name": name}, with_cell, SAMPLE, name, 0, 99)

    def test_one_queue_more(self):
        self.assertEqual(with_queue(SAMPLE, "b" * 8, 0, 1)[1], (("bbbbbbbb", 0, 1), ("q", 1, 3)))
        self.assertEqual(with_queue(SAMPLE, "z", 3, 9)[1], (("q", 1, 3), ("z", 3, 9)))
        for name, room, top in (
            ("z", -1, 1), ("z", 4, 1), ("z", 1, 0), ("z", 1, 10), ("put", 1, 1), ("z1", 1, 1),
        ):
            self.assert_raises(Unfit, {}, with_queue, SAMPLE, name, room, top)
        for name in ("x", "q", "a"):
            self.assert_raises(Known, {"name": name}, with_queue, SAMPLE, name, 9, 0)

    def test_one_part_more(self):
        block = (("when", ("stands", "a", "top")),)
        self.assertEqual(with_part(SAMPLE, "aa", block)[2], (SAMPLE[2][0], ("aa", block), SAMPLE[2][1]))
        self.assertEqual(with_part(SAMPLE, "c", ())[2][2], ("c", ()))
        for name, block in (
            ("c", (("leave",),)), ("c", (1,)), ("c", (None, PASS)), ("part", ()), ("", (PASS,)),
            ("c", (("let", "z", ONE),)), ("c", ("pass",)), ("c", (("when", ("empty", "x")),)),
        ):
            self.assert_raises(Unfit, {}, with_part, SAMPLE, name, block)
        for name in ("x", "q", "a"):
            self.assert_raises(Known, {"name": name}, with_part, SAMPLE, name, (1,))

    def test_another_block(self):
        made = with_block(SAMPLE, "b", (SET_X,))
        self.assertEqual(made, (*SAMPLE[:2], (SAMPLE[2][0], ("b", (SET_X,)))))
        self.assertEqual(with_block(SAMPLE, "a", [])[2][0], ("a", ()))
        self.assertEqual(with_block(SAMPLE, "b", [["pick", [[["pass"]]]]])[2][1][1], (("pick", ((PASS,),)),))
        for block in ((PASS, 1), (("go", "l"),), (("once", ()),), (("let", ("x",), ONE),), ((),)):
            self.assert_raises(Unfit, {}, with_block, SAMPLE, "a", block)
            self.assert_raises(NoPart, {"name": "x"}, with_block, SAMPLE, "x", block)
        asking = with_parts((("label", "l"),), (("when", STANDS),))
        self.assert_raises(Unfit, {}, with_block, asking, "a", ())

    def test_other_numbers(self):
        self.assertEqual(with_first(SAMPLE, "y", 3)[0], (("x", 3, 0), ("y", 3, 3)))
        for number in (-1, 4, 10):
            self.assert_raises(Unfit, {}, with_first, SAMPLE, "y", number)
            self.assert_raises(NoCell, {"name": "q"}, with_first, SAMPLE, "q", number)
        self.assertEqual(with_room(SAMPLE, "q", 0)[1], (("q", 0, 3),))
        self.assertEqual(with_room(SAMPLE, "q", 3)[1], (("q", 3, 3),))
        for room in (-1, 4):
            self.assert_raises(Unfit, {}, with_room, SAMPLE, "q", room)
            self.assert_raises(NoQueue, {"name": "x"}, with_room, SAMPLE, "x", room)
        asking = with_parts((("check", ("or", LOW, ("not", ("full", "q")))),))
        self.assert_raises(Unfit, {}, with_room, asking, "q", 0)
        self.assertEqual(with_room(asking, "q", 1)[1][1], ("q", 1, 3))

    def test_without(self):
        system = with_parts((SET_X,), (("label", "l"), ("get", "q", "x")))
        self.assertEqual(without(system, "y")[0], (("x", 3, 0),))
        self.assertEqual(without(system, "h")[1], (("q", 2, 3),))
        self.assertEqual(without(system, "a")[2], system[2][1:])
        self.assertEqual(without(without(system, "b"), "q")[1], (("h", 0, 3),))
        for name in ("x", "q"):
            self.assert_raises(Unfit, {}, without, system, name)
        for name in ("z", "", "l", "go"):
            self.assert_raises(NoPart, {"name": name}, without, system, name)
        self.assert_raises(Unfit, {}, without, without(system, "b"), "a")
        asking = with_parts((("label", "l"), ("when", STANDS)), (("when", STANDS),))
        self.assert_raises(Unfit, {}, without, asking, "a")
        self.assertEqual(without(asking, "b")[2], asking[2][:1])
        hidden = with_parts((("pick", ((("when", ("not", ("same", ONE, Y))),),)),))
        self.assert_raises(Unfit, {}, without, hidden, "y")

    def test_renamed(self):
        block = (
            ("label", "x"), ("let", "x", ("sum", X, ("times", X, Y))), ("put", "q", X), ("get", "q", "x"),
            ("once", (("when", ("and", ("full", "q"), ("or", ("empty", "q"), ("less", X, X)))), PASS)),
            ("again", ((("check", ("not", ("stands", "a", "x"))), ("leave",)), (("else",), ("go", "x")))),
        )
        system = with_parts(block, (("when", ("stands", "a", "x")), ("label", "a")))
        cell = renamed(system, "x", "z")
        self.assertEqual(cell[0], (("y", 3, 0), ("z", 3, 0)))
        z = ("cell", "z")
        self.assertEqual(cell[2][0][1], (
            ("label", "x"), ("let", "z", ("sum", z, ("times", z, Y))), ("put", "q", z), ("get", "q", "z"),
            ("once", (("when", ("and", ("full", "q"), ("or", ("empty", "q"), ("less", z, z)))), PASS)),
            block[-1],
        ))
        queue = renamed(system, "q", "a" * 8)
        self.assertEqual(queue[1], (("aaaaaaaa", 2, 3), ("h", 0, 3)))
        self.assertEqual(systems.queue_names(queue), ("aaaaaaaa", "h"))
        self.assertEqual(puts_into(queue, "a"), ("aaaaaaaa",))
        part = renamed(system, "a", "p")
        self.assertEqual(part_names(part), ("b", "p"))
        self.assertEqual(asks_labels(part, "b"), (("p", "x"),))
        self.assertEqual((asks_labels(part, "p"), labels_of(part, "b")), ((("p", "x"),), ("a",)))
        for made in (cell, queue, part):
            self.assertIs(is_system(made), True)

    def test_renamed_wrongly(self):
        for old in ("z", "", "go", "top"):
            for new in ("x", "Go", "fine"):
                self.assert_raises(NoPart, {"name": old}, renamed, SAMPLE, old, new)
        for old in ("x", "q", "b"):
            for new in ("x", "y", "q", "a", "b"):
                self.assert_raises(Known, {"name": new}, renamed, SAMPLE, old, new)
            for new in ("", "go", "Z", "abcdefghi"):
                self.assert_raises(Unfit, {}, renamed, SAMPLE, old, new)

    def test_relabelled(self):
        block = (("label", "l"), ("pick", ((("when", STANDS), ("go", "l")), (PASS, ("label", "k")))))
        system = with_parts(block, (("label", "l"), ("go", "l"), ("check", ("not", STANDS))))
        made = relabelled(system, "a", "l", "new")
        new = ("stands", "a", "new")
        self.assertEqual(block_of(made, "a"), (
            ("label", "new"), ("pick", ((("when", new), ("go", "new")), (PASS, ("label", "k")))),
        ))
        self.assertEqual(block_of(made, "b"), (("label", "l"), ("go", "l"), ("check", ("not", new))))
        other = relabelled(system, "b", "l", "x")
        self.assertEqual(block_of(other, "b"), (("label", "x"), ("go", "x"), ("check", ("not", STANDS))))
        self.assertEqual(block_of(other, "a"), block)
        for new in ("l", "k", "go", "", "abcdefghi"):
            self.assert_raises(Unfit, {}, relabelled, system, "a", "l", new)
            self.assert_raises(NoLabel, {"name": "m"}, relabelled, system, "a", "m", new)
            self.assert_raises(NoPart, {"name": "c"}, relabelled, system, "c", "m", new)
        self.assert_raises(NoLabel, {"name": "k"}, relabelled, system, "b", "k", "n")

    def test_beside(self):
        made = beside(SAMPLE, OTHER)
        self.assertEqual(made, beside(OTHER, SAMPLE))
        self.assertEqual(cell_names(made), ("d", "x", "y"))
        self.assertEqual(queue_names(made), ("h", "q", "r"))
        self.assertEqual(part_names(made), ("a", "b", "give", "take"))
        self.assertIs(is_system(made), True)
        self.assert_raises(Known, {"name": "a"}, beside, SAMPLE, SAMPLE)
        other = ((("b", 1, 0), ("y", 1, 0)), (), (("q", ()),))
        self.assert_raises(Known, {"name": "b"}, beside, SAMPLE, other)
        self.assert_raises(Known, {"name": "b"}, beside, other, SAMPLE)
        self.assert_raises(Known, {"name": "q"}, beside, SAMPLE, ((), (), (("q", ()),)))

    def test_at_random(self):
        maker = Maker(2)
        for _ in range(40):
            system = maker.system(2, 5)
            for name in cell_names(system) + queue_names(system) + part_names(system):
                there = renamed(system, name, "new")
                self.assertIs(is_system(there), True)
                self.assertEqual(renamed(there, "new", name), system)
            for part in part_names(system):
                for label in labels_of(system, part):
                    there = relabelled(system, part, label, "new")
                    self.assertIs(is_system(there), True)
                    self.assertEqual(relabelled(there, part, "new", label), system)
                self.assertEqual(with_block(system, part, block_of(system, part)), system)
                if not any([part in dict(asks_labels(system, other)) for other in part_names(system)]):
                    self.assertEqual(
                        with_part(without(system, part), part, block_of(system, part)), system
                    )
            for name in spare_names(system):
                rest = without(system, name)
                self.assertNotIn(name, cell_names(rest) + queue_names(rest))


if __name__ == "__main__":
    unittest.main()
