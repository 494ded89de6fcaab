"""Texts of VALUES, TESTS, blocks and SYSTEMS, read and written."""

import unittest

from grammar import bad_piece, pieces_of
from helper import LOW, ONE, OTHER, SAMPLE, SET_X, TWO, Case, Maker, X, Y, listed, with_parts
from runclaims import language, texts
from runclaims.errors import BadText, Unfit
from runclaims.language import block_from, pieces, system_from, value_from
from runclaims.systems import block_of, is_system, part_names
from runclaims.texts import block_text, system_text, value_text

PASS = ("pass",)
READ = {
    "value": value_from, "test": language.test_from, "block": block_from, "system": system_from,
}
WORDS = (
    "x q a 0 1 9 10 ( ) [ ] { } | ; = == < + - * not and or empty full stands pass leave else put"
    " get when check label go once pick again cell queue part true until next longnames X ! _ ."
).split()


class Pieces(Case):
    def test_pieces(self):
        for text, wanted in (
            ("", ()), ("  \n ", ()), ("a", ("a",)), ("ab12cd", ("ab", "12", "cd")), ("a b", ("a", "b")),
            ("===", ("==", "=")), ("====", ("==", "==")), ("= =", ("=", "=")), ("x=1", ("x", "=", "1")),
            ("a\nb", ("a", "b")), ("Abc", ("A", "bc")), ("aB", ("a", "B")), ("<=", ("<", "=")),
            ("007", ("007",)), ("..", (".", ".")), ("a_b", ("a", "_", "b")), ("{}", ("{", "}")),
            ("((1))", ("(", "(", "1", ")", ")")), ("x==y", ("x", "==", "y")), ("~!", ("~", "!")),
            ("a" * 40 + "1" * 40, ("a" * 40, "1" * 40)),
        ):
            self.assertEqual(pieces(text), wanted)

    def test_all_signs(self):
        for number in range(32, 127):
            sign = chr(number)
            if sign not in " ":
                self.assertEqual(pieces(f" {sign}{sign}\n{sign} ")[-1], sign)
        self.assertEqual(pieces(" \n \n\n"), ())


class Read(Case):
    def assert_bad(self, kind, text, piece):
        self.assert_raises(BadText, {"piece": piece}, READ[kind], text)
        self.assertEqual(bad_piece(kind, text), piece)

    def test_values(self):
        for text, wanted in (
            ("0", ("number", 0)), ("x", X), ("1+x", ("sum", ONE, X)), ("x - 1", ("gap", X, ONE)),
            ("x*x", ("times", X, X)), ("1-x-y", ("gap", ("gap", ONE, X), Y)),
            ("1-x+y", ("sum", ("gap", ONE, X), Y)), ("1-(x+y)", ("gap", ONE, ("sum", X, Y))),
            ("x*y+1", ("sum", ("times", X, Y), ONE)), ("x+y*1", ("sum", X, ("times", Y, ONE))),
            ("x*y*1", ("times", ("times", X, Y), ONE)), ("((x))", X), ("(x+y)*1", ("times", ("sum", X, Y), ONE)),
            ("x*(y-1)-1", ("gap", ("times", X, ("gap", Y, ONE)), ONE)), ("let", ("cell", "let")),
        ):
            self.assertEqual(value_from(text), wanted)

    def test_bad_values(self):
        for text, piece in (
            ("", 0), (" \n", 0), ("(", 1), ("( x", 2), ("x )", 1), ("x +", 2), ("+ x", 0), ("x y", 1),
            ("10", 0), ("1 + 10", 2), ("X", 0), ("cell", 0), ("abcdefghi", 0), ("x + - y", 2), ("()", 1),
            ("x == y", 1), ("(x + y", 4), ("(x + y))", 5), ("- 1", 0), ("x .", 1), ("x\n+\nput", 2), ("1x", 1),
        ):
            self.assert_bad("value", text, piece)

    def test_tests(self):
        full, empty, stands = ("full", "q"), ("empty", "q"), ("stands", "a", "l")
        for text, wanted in (
            ("x == 1", ("same", X, ONE)), ("x<2", LOW), ("full q", full), ("stands a l", stands),
            ("not x < 2", ("not", LOW)), ("not not full q", ("not", ("not", full))), ("[ full q ]", full),
            ("full q and empty q and x < 2", ("and", ("and", full, empty), LOW)),
            ("full q or empty q or x < 2", ("or", ("or", full, empty), LOW)),
            ("full q or empty q and x < 2", ("or", full, ("and", empty, LOW))),
            ("full q and empty q or x < 2", ("or", ("and", full, empty), LOW)),
            ("not full q and empty q", ("and", ("not", full), empty)),
            ("not [full q and empty q]", ("not", ("and", full, empty))),
            ("full q and [empty q or x < 2]", ("and", full, ("or", empty, LOW))),
            ("full q and not empty q", ("and", full, ("not", empty))), ("[[x<2]]", LOW),
            ("1 + 1 * x < (2)", ("less", ("sum", ONE, ("times", ONE, X)), TWO)),
        ):
            self.assertEqual(language.test_from(text), wanted)

    def test_bad_tests(self):
        for text, piece in (
            ("", 0), ("x", 1), ("x =", 1), ("x = 1", 1), ("x ==", 2), ("x == 1 == 1", 3), ("x < 1 < 2", 3),
            ("[ x ]", 2), ("[ x < 1", 4), ("x < 1 ]", 3), ("not", 1), ("and x < 1", 0), ("x < 1 and", 4),
            ("full", 1), ("full go", 1), ("full 1", 1), ("stands a", 2), ("stands a b c", 3), ("( x < 1 )", 2),
            ("[ x + 1 ] < 1", 4), ("full q or or", 3), ("true", 0), ("empty abcdefghi", 1), ("x < not", 2),
            ("not [ full q and ]", 5), ("full q empty q", 2), ("( x ) + 1", 5), ("x < y z", 3),
        ):
            self.assert_bad("test", text, piece)

    def test_blocks(self):
        for text, wanted in (
            ("", ()), (" \n ", ()), ("pass", (PASS,)), ("pass;pass", (PASS, PASS)), ("x = 1", (SET_X,)),
            ("put q x + 1", (("put", "q", ("sum", X, ONE)),)), ("get q x", (("get", "q", "x"),)),
            ("when x<2;check full q", (("when", LOW), ("check", ("full", "q")))),
            ("label l ; go m", (("label", "l"), ("go", "m"))), ("leave", (("leave",),)), ("else", (("else",),)),
            ("else ; else", (("else",), ("else",))), ("once { once { leave } }", (("once", (("once", (("leave",),)),)),)),
            ("once { label l ; go l }", (("once", (("label", "l"), ("go", "l"))),)),
            ("pick { pass }", (("pick", ((PASS,),)),)), ("pick{pass|pass;pass}", (("pick", ((PASS,), (PASS, PASS))),)),
            ("pick { else | label l }", (("pick", ((("else",),), (("label", "l"),))),)),
            ("again { pass | once { x = 1 } | else }", (("again", ((PASS,), (("once", (SET_X,)),), (("else",),))),)),
        ):
            self.assertEqual(block_from(text), wanted)

    def test_bad_blocks(self):
        for text, piece in (
            (";", 0), ("pass ;", 2), ("pass pass", 1), ("; pass", 0), ("x", 1), ("x == 1", 1), ("x = ", 2),
            ("put q", 2), ("put 1", 1), ("get q 1", 2), ("get q x y", 3), ("when x", 2), ("label", 1), ("go go", 1),
            ("once { }", 2), ("pick { }", 2), ("again { | }", 2), ("pick { pass | }", 4), ("pick { pass ; }", 4),
            ("once { pass | pass }", 3), ("pick { pass", 3), ("pass }", 1), ("once pass", 1), ("pick ( pass )", 1),
            ("{ pass }", 0), ("1 = x", 0), ("part a { }", 0), ("x = 1 ; { }", 4), ("let x = 1", 1), ("once { pass } }", 4),
            ("pick { pick { pass }", 6), ("x = 10", 2), ("label abcdefghi", 1), ("stands a l", 0),
        ):
            self.assert_bad("block", text, piece)

    def test_systems(self):
        self.assertEqual(system_from("part p { }"), ((), (), (("p", ()),)))
        self.assertEqual(system_from("cell c 9=9 queue q 0 1 queue r 3 9 part a{}part b{c=c}"), (
            (("c", 9, 9),), (("q", 0, 1), ("r", 3, 9)), (("a", ()), ("b", (("let", "c", ("cell", "c")),))),
        ))

    def test_bad_systems(self):
        for text, piece in (
            ("", 0), ("part", 1), ("part p", 2), ("part p {", 3), ("part p { } }", 4), ("cell c 1 = 0", 5),
            ("cell c 0 = 0 part p { }", 2), ("cell c 10 = 0", 2), ("cell c 1 == 0", 3), ("cell cell 1 = 0", 1),
            ("cell c 1 = x", 4), ("queue q 4 1", 2), ("queue q 3 0", 3), ("queue q 1", 3), ("queue q 1 = 1", 3),
            ("part p { } cell c 1 = 0", 4), ("part p { } queue q 1 1", 4), ("queue q 1 1 cell c 1 = 0", 4),
            ("part p { } part", 5), ("part p { ; }", 3), ("part p { pass ; }", 5), ("x = 1", 0), ("cell c 1 = 10", 4),
            ("part part { }", 1), ("part p pass", 2), ("part p { once { } }", 5), ("part p { } ;", 4),
        ):
            self.assert_bad("system", text, piece)

    def test_texts_of_no_systems(self):
        for text in (
            "part p { x = 1 }", "cell c 1 = 2 part p { }", "part b { } part a { }", "part a { } part a { }",
            "cell d 1 = 0 cell c 1 = 0 part a { }", "cell a 1 = 0 part a { }", "queue q 0 1 part a { when full q }",
            "part a { go l }", "part a { leave }", "part a { else }", "part a { label l ; label l }",
            "part a { once { once { pass } } }", "part a { pick { pick { pass } } }", "part a { once { again { pass } } }",
            "part a { pick { label l ; pass } }", "part a { pick { pass ; else } }", "part a { when stands a l }",
            "queue r 1 1 queue q 1 1 part a { }", "part a { pick { else } }", "part a { again { else | pass } }",
        ):
            self.assert_raises(Unfit, {}, system_from, text)
            self.assertIsNone(bad_piece("system", text))
        self.assert_raises(BadText, {"piece": 8}, system_from, "part b { x = 1 } part part")


class Written(Case):
    def test_values_and_tests(self):
        self.assertEqual(value_text(("number", 0)), "0")
        self.assertEqual(value_text(X), "x")
        value = ("times", ("sum", X, ONE), ("gap", X, Y))
        self.assertEqual(value_text(value), "( ( x + 1 ) * ( x - y ) )")
        for test, wanted in (
            (LOW, "x < 2"), (("same", value, X), "( ( x + 1 ) * ( x - y ) ) == x"), (("full", "q"), "full q"),
            (("empty", "q"), "empty q"), (("stands", "a", "l"), "stands a l"), (("not", LOW), "[ not x < 2 ]"),
            (("and", ("not", LOW), ("or", LOW, LOW)), "[ [ not x < 2 ] and [ x < 2 or x < 2 ] ]"),
        ):
            self.assertEqual(texts.test_text(test), wanted)

    def test_blocks(self):
        for block, wanted in (
            ((), ""), ((PASS,), "pass"), ((SET_X, PASS), "x = 1 ; pass"), ((("put", "q", ("sum", X, ONE)),), "put q ( x + 1 )"),
            ((("get", "q", "x"), ("when", LOW)), "get q x ; when x < 2"), ((("check", ("not", LOW)),), "check [ not x < 2 ]"),
            ((("label", "l"), ("go", "l")), "label l ; go l"), ((("once", (PASS, PASS)),), "once { pass ; pass }"),
            ((("pick", ((PASS,), (("else",), PASS))), PASS), "pick { pass | else ; pass } ; pass"),
            ((("again", ((("once", (SET_X,)),), (("leave",),))),), "again { once { x = 1 } | leave }"),
        ):
            self.assertEqual(block_text(block), wanted)
            self.assertEqual(block_from(wanted), block)

    def test_systems(self):
        self.assertEqual(system_text(((), (), (("p", ()),))), "part p { }")
        self.assertEqual(system_text(OTHER), (
            "cell d 9 = 2\nqueue h 0 4\nqueue r 2 9\npart give { put h d ; label gone ; check empty r }\n"
            "part take { get h d ; when stands give gone ; pass }"
        ))


class ThereAndBack(Case):
    def each_text(self, seed, many):
        """Pairs (kind, text) of texts of values, tests, blocks and systems."""
        maker = Maker(seed)
        for _ in range(many):
            yield "value", value_text(maker.value("xy", 3))
            yield "test", texts.test_text(maker.test("xy", "q", [("a", "l")], 3))
            system = maker.system(2, 4)
            yield "system", system_text(system)
            yield "block", block_text(block_of(system, "a"))

    def test_what_is_written_is_read_again(self):
        maker = Maker(3)
        for _ in range(60):
            value, test = maker.value("xy", 4), maker.test("xy", "q", [("a", "l")], 4)
            self.assertEqual(value_from(value_text(value)), value)
            self.assertEqual(language.test_from(texts.test_text(test)), test)
            system = maker.system(2, 5)
            self.assertEqual(system_from(system_text(system)), system)
            for part in part_names(system):
                block = block_of(system, part)
                self.assertEqual(block_from(block_text(block)), block)
                self.assertEqual(block_text(listed(block)), block_text(block))

    def test_pieces_stand_between_single_blanks(self):
        for _, text in self.each_text(4, 20):
            for line in text.split("\n"):
                self.assertEqual(" ".join(pieces(line)), line)

    def test_other_blanks_and_ends_of_lines(self):
        maker = Maker(5)
        for kind, text in self.each_text(6, 20):
            row = pieces(text)
            wanted = READ[kind](text)
            for blanks in (("  ", "\n"), ("\n\n", " "), (" \n ", "   ")):
                other = "".join([maker.pick(*blanks) + piece for piece in row]) + blanks[0]
                self.assertEqual(READ[kind](other), wanted)
                self.assertEqual(pieces(other), row)
        self.assertEqual(value_from("x+1*(y-2)"), value_from(" x + 1 * ( y - 2 )\n"))

    def test_changed_texts(self):
        maker = Maker(7)
        met = {True: 0, False: 0}
        for kind, text in self.each_text(8, 25):
            row = pieces_of(text)
            for at in sorted(maker.random.sample(range(len(row) + 1), min(4, len(row) + 1))):
                for changed in (
                    row[:at], row[:at] + row[at + 1:], row[:at] + row[at:at + 1] + row[at:],
                    row[:at] + [maker.pick(*WORDS)] + row[at + 1:], row[:at] + [maker.pick(*WORDS)] + row[at:],
                ):
                    met[self.check_changed(kind, " ".join(changed))] += 1
        self.assertGreater(min(met.values()), 50)

    def check_changed(self, kind, text):
        """Whether the text is one; what is told of it is right."""
        bad = bad_piece(kind, text)
        if bad is not None:
            self.assert_raises(BadText, {"piece": bad}, READ[kind], text)
            return False
        try:
            found = READ[kind](text)
        except Unfit:
            self.assertEqual(kind, "system")
            return True
        if kind == "system":
            self.assertIs(is_system(found), True)
        write = {"value": value_text, "test": texts.test_text, "block": block_text, "system": system_text}
        self.assertEqual(READ[kind](write[kind](found)), found)
        return True

    def test_long_and_deep_texts(self):
        value = value_from(" + ".join(["x"] * 41))
        self.assertEqual(value_from(value_text(value)), value)
        self.assertEqual(value_from("(" * 45 + "x" + ")" * 45), X)
        self.assert_raises(BadText, {"piece": 90}, value_from, "(" * 45 + "x" + ")" * 44)
        self.assertEqual(language.test_from("[" * 45 + "x<2" + "]" * 45), LOW)
        test = LOW
        for _ in range(40):
            test = ("not", test)
        self.assertEqual(language.test_from("not " * 40 + "x<2"), test)
        block = block_from("once { " * 40 + "pass" + " }" * 40)
        self.assertEqual(block_from(block_text(block)), block)
        self.assert_raises(BadText, {"piece": 0}, value_from, "1" * 40)
        many = "\n".join(["x = 1 ;" * 28 for _ in range(199)]) + "pass"
        self.assertEqual(len(block_from(many)), 28 * 199 + 1)

    def test_bigger_texts_left_and_right(self):
        self.assertEqual(system_from(system_text(listed(SAMPLE))), SAMPLE)
        self.assertEqual(with_parts((SET_X,)), system_from(system_text(with_parts((SET_X,)))))


if __name__ == "__main__":
    unittest.main()
