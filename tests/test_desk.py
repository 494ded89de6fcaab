"""Requests and replies, texts of TURNS and EDITS."""

import unittest

from helper import JUNK, LOW, ONE, OTHER, SAMPLE, X, Case, Maker, free_clock, listed
from likes import some_edit
from papers import small_systems, some_claims
from runclaims.board import Board
from runclaims.desk import edit_from, edit_text, is_request, replies, turn_from, turn_text
from runclaims.edits import edited
from runclaims.errors import BadLine, BadText, ModelError, NoPart
from runclaims.report import claim_text, report
from runclaims.states import ended_parts, held_in, holder_of, lying, ready
from runclaims.systems import is_system
from runclaims.texts import block_text, system_text

PASS = ("pass",)
EDITS = (
    (("insert", "a", (0, 1, 2), ("get", "q", "c")), "insert a 0.1.2 get q c"), (("part", "b", ()), "part b { }"), (("remove", "a", ()), "remove a -"),
    (("insert", "a", (), ("pick", ((PASS,), (("else",),)))), "insert a - pick { pass | else }"), (("remove", "again", (10, 0)), "remove again 10.0"),
    (("replace", "b", (0,), ("let", "x", ("sum", X, ONE))), "replace b 0 x = ( x + 1 )"), (("top", "x", 7), "top x 7"), (("value", "put", 10), "value put 10"),
    (("room", "q", 0), "room q 0"), (("cell", "c", 2, 1), "cell c 2 1"), (("queue", "q", 3, 12345), "queue q 3 12345"), (("part", "p", (PASS, ("when", LOW))), "part p { pass ; when x < 2 }"),
    (("drop", "abcdefghijk"), "drop abcdefghijk"), (("name", "x", "cell"), "name x cell"), (("label", "a", "top", "low"), "label a top low"),
)
SYSTEM = "cell x 3 = 0 part a { x = 1 ; x = 2 } part b { pass }"
MANY = "\n".join(["put s " + SYSTEM, "turn s a 0", "turn s b 0", "keep s can x == 2"])


class Turns(Case):
    def test_texts_of_turns(self):
        for turn, text in (((), "idle"), ((0, 0), "a 0"), ((1, 12), "b 12"), ((0, 1, 1, 0), "a 1 to b 0"), ((1, 10 ** 30, 0, 0), f"b {10 ** 30} to a 0")):
            self.assertEqual(turn_text(SAMPLE, turn), text)
            self.assertEqual(turn_text(system=listed(SAMPLE), turn=list(turn)), text)
            self.assertEqual(turn_from(SAMPLE, text), turn)
            self.assertEqual(turn_from(system=listed(SAMPLE), text=text), turn)
        self.assertEqual(turn_text(OTHER, (0, 0, 1, 0)), "give 0 to take 0")

    def test_what_is_no_turn(self):
        for text in (
            "", " ", "idle ", " idle", "Idle", "idle idle", "a", "0", "a 00", "a 01", "a -1", "a  0", "a 0 ", " a 0", "a 0 to", "a 0 to b", "a 0 b 0", "a 0 to  b 0", "a 0 to b 0 to a 0", "a 0 To b 0",
            "A 0", "a_ 0", "a1 0", "a x", "a 0\n", "a\n0", "0 a", "a +1", "a 1.0", "a 0,b 0", "\xe9 0", "a \u0663", "to to to to to",
        ):
            self.assert_raises(BadText, {"piece": 0}, turn_from, SAMPLE, text)
        for text, name in (("c 0", "c"), ("a 0 to c 0", "c"), ("d 0 to c 0", "d"), ("idle 0", "idle"), ("to 0 to to 0", "to"), ("again 0 to a 0", "again"), ("abcdefghijk 0", "abcdefghijk")):
            self.assert_raises(NoPart, {"name": name}, turn_from, SAMPLE, text)
        self.assertEqual(turn_from(SAMPLE, "a 0 to a 0"), (0, 0, 0, 0))


class Edits(Case):
    def test_texts_of_edits(self):
        for edit, text in EDITS:
            self.assertEqual(edit_text(edit), text)
            self.assertEqual(edit_text(edit=listed(edit)), text)
            self.assertEqual(edit_from(text), edit)
            self.assertEqual(edit_from(text=text), edit)
            self.assertIs(is_request("edit s " + text), True)
            self.assertIs(is_request("spoilt s " + text), True)
        maker = Maker(271)
        for _ in range(200):
            system = maker.system(parts=2, deeds=4)
            edit = maker.pick(some_edit(maker, system), ("part", "zz", system[2][0][1]))
            self.assertEqual(edit_from(edit_text(edit)), edit)

    def test_other_ways_to_write_them(self):
        for text, edit in (
            ("insert a 0 x=1", ("insert", "a", (0,), ("let", "x", ONE))), ("insert a 0   pass  ", ("insert", "a", (0,), PASS)), ("insert a 0 pick{pass|else}", ("insert", "a", (0,), ("pick", ((PASS,), (("else",),))))),
            ("part p {pass;pass}", ("part", "p", (PASS, PASS))), ("part p { pass\n ; pass }", ("part", "p", (PASS, PASS))), ("part p {  }", ("part", "p", ())), ("part p {\n pass\n }", ("part", "p", (PASS,))),
            ("insert a 0 once {\n pass }", ("insert", "a", (0,), ("once", (PASS,)))), ("part p {}", ("part", "p", ())),
        ):
            self.assertEqual(edit_from(text), edit, text)

    def test_what_is_no_edit(self):
        for text in (
            "", " ", "insert", "insert a", "insert a 0", "insert a 0 ", "insert a 0 pass ; pass", "insert a 0 pass }", "insert a pass", "insert a 0.. pass", "insert a 0..1 pass", "insert a .0 pass", "insert a 0. pass",
            "insert a 00 pass", "insert a 0.01 pass", "insert a -1 pass", "insert a -.0 pass", "insert A 0 pass", "insert  a 0 pass", "insert a  0 pass", " insert a 0 pass", "remove a", "remove a 0 ", "remove a 0 pass",
            "remove a 0\n", "replace a 0", "top x", "top x 03", "top x 3 ", "top x 3 4", "top 3 x", "top x -1", "value x", "room q q", "cell c 1", "cell c 1 2 3", "cell c 1 x", "queue q 1", "part p", "part p { pass", "part p pass }",
            "part p { pass } ", "part p  { pass }", "part p { x == 1 }", "part p { pass ; }", "part p { } }", "drop", "drop x y", "drop X", "drop x1", "name x", "name x y z", "label a b", "label a b c d", "add x", "edit x", "drop\nx", "cell c 1 2\n",
            "insert a 0 let x 1", "insert a 0 x = 10", "insert a 0 else else", "Part p { }", "part p { pass }\n",
        ):
            self.assert_raises(BadText, {"piece": 0}, edit_from, text)
            self.assertIs(is_request("edit s " + text), False, text)


class Requests(Case):
    def test_what_is_a_request(self):
        for text in (
            "put x " + SYSTEM, "put x part a{}", "put x  part a { }", "put x part a { } ", "put x cell c 2 = 0\n queue q 1 2\n part a { put q c }", "put x\n part a { }", "put x part a {\n pass ;\n  pass\n }", "drop x",
            "rename x y", "rename x x", "edit nobody drop z", "turn x idle", "turn x a 0", "turn x a 1 to b 0", "turn x zoo 99", "keep x moves", "keep x always zz == 3", "keep x keeps none p; p is 1 < 2", "keep x can\n c == 2",
            "free x checked", "undo", "system x", "names", "deeds", "run x", "ready x", "cell x c", "cell x queue", "cell x abcdefghijk", "lying x q", "holder x", "ended x", "claims x", "standing x", "lost x", "sure x",
            "spoilt x remove a 0", "mended x top c 9999", "report x", "put x part a { z = 1 }", "put x cell c 1 = 9 part a { go l }", "edit x part b {\n pass\n }", "rename idle let", "keep x always  c==0 ",
            "drop\n x", "turn x a\n 0", "free x\n moves", "edit\n x\n insert\n a\n 0\n pass", "put\n x\n  part a { }\n ",
        ):
            self.assertIs(is_request(text), True, text)
            self.assertIs(is_request(thing=text), True)

    def test_what_is_none(self):
        for thing in JUNK + (
            " ", "\n", " names", "names ", "names\n", "names\nnames", "names\n ", "Names", "names x", "drop", "drop ", "drop  x", "drop x ", "drop x y", "drop x\n ", "drop X", "drop abcdefghi", "drop let ", "drop go", "drop\n  x", "drop\nx", "rename x", "rename x  y",
            "rename x go", "rename x y z", "put", "put x", "put x ", "put go part a { }", "put x part a {", "put x cell c 10 = 0 part a { }", "put x queue q 4 1 part a { }", "put X part a { }", "put  x part a { }", "put x pass", "turn x", "turn x a",
            "turn x a 00", "turn x  a 0", "turn x a  0", "turn x a 0 ", "turn x a\n  0", "turn x a 0 to b", "keep x", "keep x  moves", "keep x moves ", "keep x always", "keep x never c == 0", "keep x keeps p", "free x \n moves", "undo x", "undo ", "cell x",
            "cell x c d", "cell x C", "cell x 0", "lying x", "run", "run x y", "report", "report x ", "spoilt x", "mended x drop", "edit x", "edit x drop", "deed", "list", "put x part a { }\nnames", "put x\npart a { }", "names\r", "\tnames", "system x\n\n",
            b"names", ["names"], ("names",), None,
        ):
            self.assertIs(is_request(thing), False, thing)

    def test_lines(self):
        self.assertEqual(replies(""), [])
        self.assertEqual(replies(text="names"), ["-"])
        for number, text in (
            (0, " "), (0, "\n"), (0, " names"), (0, "\nnames"), (1, "names\n"), (1, "names\n\nnames"), (2, "names\nnames\nname"), (0, "name\nnames\n"), (0, "names\n names"), (1, "names\ndrop \n x"), (0, "drop x \nnames"),
            (3, "put x part a { }\n \n \n"), (2, "put x cell c 2 = 0\n part a { }\nturn x a  0"), (0, "put x cell c 2 = 0\npart a { }"), (1, "put x part a { z = 1 }\nput x part a {"), (1, "drop nobody\nDROP x\nx"),
        ):
            self.assert_raises(BadLine, {"number": number}, replies, text)

    def test_at_each_blank_a_line_may_end(self):
        text = MANY + "\nkeep s keeps none,weak ever p; p is x == 2\nspoilt s insert a 0 x = 3\nturn s a 1\nundo\nstanding s\nrename s t\nnames\ncell t x"
        self.assertEqual(replies(text.replace(" ", "\n ")), replies(text))
        self.assertTrue(all([is_request(line.replace(" ", "\n ")) for line in text.split("\n")]))

    def test_over_several_lines(self):
        text = "put x\n cell c 2 = 0\n queue q 1 2\n part a {\n  put q c + 1 ;\n  c = 2\n }\nsystem x\nkeep x can\n c ==\n 2\nclaims x\nedit x insert a 0\n pass\nsystem x"
        self.assertEqual(replies(text), [
            "done", "cell c 2 = 0\nqueue q 1 2\npart a { put q ( c + 1 ) ; c = 2 }", "done", "can c == 2", "done", "cell c 2 = 0\nqueue q 1 2\npart a { pass ; put q ( c + 1 ) ; c = 2 }",
        ])


class AnyText(Case):
    """A thing may be a text with numbers of any length, and of any depth."""

    def test_great_numbers(self):
        for digits in (1, 640, 4300, 4301, 5000, 20000):
            great = "9" * digits
            for text in (
                "turn x a {}", "turn x a 1 to b {}", "turn x a {} to b {}", "edit x insert a {} pass", "edit x insert a 0.{} pass", "edit x remove a 0.{}.1", "edit x replace a {}.{} leave", "edit x top c {}", "edit x value c {}",
                "spoilt x room q {}", "edit x cell n {} {}", "mended x queue n {} {}", "turn\n x\n a\n {}",
            ):
                self.assertIs(is_request(text.replace("{}", great)), True, text)
                self.assertIs(is_request(thing=text.replace("{}", great)), True, text)
                for wrong in ("0" + great, great + "x", "-" + great, "+" + great, great + ".", great + "\u0663", great + "-9"):
                    self.assertIs(is_request(text.replace("{}", wrong)), False, text)

    def test_numbers_of_one_digit_alone(self):
        for text in ("put x cell c {} = 0 part a { }", "put x queue q 3 {} part a { }", "edit x insert a 0 c = {}", "keep x can c == {}", "edit x part b { put q {} }"):
            self.assertIs(is_request(text.replace("{}", "9", 1)), True, text)
            for digits in (2, 640, 5000):
                self.assertIs(is_request(text.replace("{}", "9" * digits, 1)), False, text)

    def test_they_come_back(self):
        great = 10 ** 5000 + 7
        for edit in (("top", "c", great), ("remove", "a", (0, great, 1)), ("cell", "n", great, great - 1), ("insert", "a", (great,), PASS)):
            text = edit_text(edit)
            self.assertEqual(text.count("0" * 4999 + "7") + text.count("0" * 4999 + "6"), [type(own) for own in edit].count(int) or 1)
            self.assertEqual(edit_from(text), edit)
            self.assertIs(is_request("mended x " + text), True)
        for turn in ((0, great), (1, great, 0, great + 1)):
            self.assertEqual(turn_from(SAMPLE, turn_text(SAMPLE, turn)), turn)
            self.assertIs(is_request("turn s " + turn_text(SAMPLE, turn)), True)
        text = "put s " + SYSTEM + "\nturn s a {0}\nedit s remove a {0}\nedit s top x {0}\nturn s a 0 to b {0}".format("9" * 5000)
        self.assertEqual(replies(text), ["done", "refused NotReady", "refused Unfit", "refused Unfit", "refused NotReady"])

    def test_deep_texts(self):
        for many in (1, 41, 5000):
            for begin, ahead, middle, behind, end in (
                ("keep x can ", "(", "c", ")", " == 2"), ("keep x can 1 < ", "1 - (", "c", ")", ""), ("free x can ", "[", "c == 2", "]", ""), ("keep x back ", "not [", "c == 2 or full q", "]", ""), ("keep x keeps none ", "[", "true", "]", ""),
                ("keep x keeps none ", "always [ a until ", "b", "]", "; a is full q; b is full q"), ("keep x keeps none true; w is ", "[", "stands a b", "]", ""), ("put x part a { ", "once { ", "pass", " }", " }"), ("put x part a {", "pick { pass ; pass | ", "pass", " }", " ; pass }"),
                ("edit x insert a 0 ", "again { ", "leave", " }", ""), ("edit x part b { ", "pick { ", "else", " | pass }", " }"), ("put x part a { c = ", "( 1 + ", "c", " )", " } part b { }"), ("spoilt x replace a 0.1 when ", "[ not ", "full q", " ]", ""),
            ):
                self.assertIs(is_request(begin + ahead * many + middle + behind * many + end), True, begin)
                for bad in (
                    begin + ahead * many + middle + behind * (many - 1) + end, begin + ahead * many + middle + behind * (many + 1) + end, begin + ahead * many + end, begin + ahead * many + middle + " " + middle + behind * many + end,
                    begin + ahead * many + middle + behind * many + end + " ] ", begin + ahead * many + middle,
                ):
                    self.assertIs(is_request(bad), False, begin)

    def test_long_texts(self):
        many = 20000
        for begin, ahead, middle in (
            ("keep x always ", "not ", "c == 2"), ("keep x always ", "full q and ", "c == 2"), ("keep x always ", "1 + ", "c == 2"), ("keep x keeps none ", "next ", "true"), ("keep x keeps none ", "true until ", "true"),
            ("keep x keeps none ", "a or not ", "true; a is full q"), ("keep x keeps ", "weak,", "none true"), ("edit x insert a ", "1.", "1 pass"), ("put x part a {", "\n pass ;", "\n pass\n }"), ("put x ", "cell c 1 = 0 ", "part a { }"),
        ):
            self.assertIs(is_request(begin + ahead * many + middle), True, begin)
            self.assertIs(is_request(begin + ahead * many), False, begin)
            self.assertIs(is_request(begin + ahead * many + middle + " ;"), False, begin)


class Replies(Case):
    def told(self, text, *wanted):
        self.assertEqual(replies(text), list(wanted))

    def test_each_request(self):
        self.told(
            MANY + "\nnames\ndeeds\nrun s\nready s\ncell s x\nended s\nholder s\nclaims s\nstanding s\nlost s\nsure s\nreport s\nsystem s", *["done"] * 4,
            "s", "4", "a 0, b 0", "a 1", "1", "b", "-", *["can x == 2"] * 2, "-", "can x == 2", "can x == 2: stands\n  a 0\n  a 1", "cell x 3 = 0\npart a { x = 1 ; x = 2 }\npart b { pass }",
        )
        self.told("names\ndeeds\nundo", "-", "0", "refused NothingDone")
        self.told("put s part a { }\nput b part a { }\nput tt part a { }\nnames\nrename b a\nnames\ndrop s\nnames\ndeeds\nundo\nnames", *["done"] * 3, "b s tt", "done", "a s tt", "done", "a tt", "5", "done", "a s tt")
        self.told("put s part a { }\nready s\nturn s idle\nturn s idle\nrun s\nended s\nrun s\nreport s\nclaims s\nsure s", "done", "idle", "done", "done", "idle, idle", "a", "idle, idle", "", "-", "-")
        self.told("put s cell c 3 = 0 queue q 2 3 part a { put q 2 ; put q 1 ; get q c }\nlying s q\nturn s a 0\nturn s a 1\nlying s q\nturn s a 2\nlying s q\ncell s c", "done", "-", "done", "done", "2 1", "done", "1", "2")
        self.told("put s part a { once { pass ; pass } } part b { pass }\nturn s a 0\nholder s\nready s\nturn s b 0\nended s\nturn s a 1\nholder s", "done", "done", "a", "a 1", "refused NotReady", "-", "done", "-")
        self.told(
            "put s cell x 3 = 0 part a { x = 1 }\nkeep s always x < 2\nkeep s can x == 1\nkeep s checked\nclaims s\nspoilt s value x 3\nmended s value x 2\nedit s name x y\nlost s\nstanding s\nspoilt s drop z\nfree s checked\nstanding s",
            *["done"] * 4, "always x < 2\ncan x == 1\nchecked", "always x < 2", "-", "done", "always x < 2\ncan x == 1", "checked", "refused NoPart", "done", "-",
        )
        self.told("put s cell x 3 = 2 part a { }\nkeep s always x < 2\nmended s value x 1\nspoilt s value x 1\nreport s", "done", "done", "always x < 2", "-", "always x < 2: falls")

    def test_what_is_refused(self):
        for request, error in (
            ("drop y", "NoSystem"), ("rename y x", "NoSystem"), ("edit y drop z", "NoSystem"), ("turn y zoo 0", "NoSystem"), ("turn y idle", "NoSystem"), ("keep y moves", "NoSystem"), ("free y moves", "NoSystem"), ("system y", "NoSystem"),
            ("run y", "NoSystem"), ("ready y", "NoSystem"), ("cell y z", "NoSystem"), ("lying y z", "NoSystem"), ("holder y", "NoSystem"), ("ended y", "NoSystem"), ("claims y", "NoSystem"), ("standing y", "NoSystem"), ("lost y", "NoSystem"), ("sure y", "NoSystem"),
            ("spoilt y drop z", "NoSystem"), ("mended y drop z", "NoSystem"), ("report y", "NoSystem"), ("put s part a { }", "Known"), ("put s part a { z = 1 }", "Unfit"), ("put y part a { leave }", "Unfit"), ("put y cell c 1 = 2 part a { }", "Unfit"),
            ("rename s t", "Known"), ("edit s drop z", "NoPart"), ("edit s top z 0", "NoCell"), ("edit s room z 9", "NoQueue"), ("edit s label a low top", "NoLabel"), ("edit s name x a", "Known"), ("edit s name x cell", "Unfit"), ("edit s top x 99", "Unfit"),
            ("edit s insert a 0 go low", "Unfit"), ("edit s insert c 0 pass", "NoPart"), ("turn s c 0", "NoPart"), ("turn s a 0 to c 0", "NoPart"), ("turn s c 0 to d 0", "NoPart"), ("turn s a 1", "NotReady"), ("turn s idle", "NotReady"), ("turn s a 0 to b 0", "NotReady"),
            ("keep s always z == 0", "Unfit"), ("keep s keeps none true", "Unfit"), ("free s moves", "Unfit"), ("cell s z", "NoCell"), ("cell s a", "NoCell"), ("lying s x", "NoQueue"), ("spoilt s room x 1", "NoQueue"), ("mended s top z 1", "NoCell"),
        ):
            self.told("put s " + SYSTEM + "\nput t part a { }\n" + request + "\nnames\ndeeds\nsystem s", "done", "done", "refused " + error, "s t", "2", system_text((((("x", 3, 0)),), (), (("a", (("let", "x", ONE), ("let", "x", ("number", 2)))), ("b", (PASS,))))))

    def test_a_report_of_lost_claims(self):
        self.told("put s " + SYSTEM + "\nkeep s always x < 3\nedit s name x y\nreport s\nfree s always x < 3\nreport s", "done", "done", "done", "refused Unfit", "done", "")

    def test_like_a_board(self):
        """The same deeds, done to a Board, are told by the same texts."""
        seen = set()
        for maker, system in small_systems(272, 40, 8):
            board, lines, wanted = Board(), ["put s " + system_text(system)], ["done"]
            board.put("s", system)
            for _ in range(12):
                request, call = self.some_request(maker, board)
                lines.append(request)
                try:
                    found = call()
                    wanted.append("done" if found is None else found)
                except ModelError as caught:
                    wanted.append("refused " + type(caught).__name__)
                seen.add((request.split(" ")[0], wanted[-1][:7] == "refused"))
            text = "\n".join([line.replace("\n", "\n ") for line in lines])
            self.assertEqual(replies(text), wanted)
        self.assertGreater(len(seen), 20, seen)

    def some_request(self, maker, board):
        system = board["s"] if "s" in board else SAMPLE
        word = maker.pick("edit", "edit", "turn", "turn", "keep", "keep", "free", "undo", "tell", "tell", "spoilt", "mended")
        edit = some_edit(maker, system)
        if word in ("edit", "spoilt", "mended"):
            call = {"edit": board.edit, "spoilt": board.spoilt_by, "mended": board.mended_by}[word]
            return f"{word} s {edit_text(edit)}", lambda: self.written(call("s", edit))
        if word == "turn":
            turn = maker.pick(*ready(system, board.state("s")), (0, 9)) if "s" in board else ()
            return f"turn s {turn_text(system, turn)}", lambda: board.turn("s", turn)
        if word in ("keep", "free"):
            claim = maker.pick(*some_claims(maker, system, 3))
            call = board.keep if word == "keep" else board.free
            return f"{word} s {claim_text(claim)}", lambda: call("s", claim)
        if word == "undo":
            return word, board.undo
        word = maker.pick("claims", "standing", "lost", "sure", "run", "ready", "cell", "ended", "holder", "report", "system", "lying")
        name = maker.pick(*[row[0] for row in system[0] + system[1]], "x")
        request = f"{word} s {name}" if word in ("cell", "lying") else f"{word} s"
        return request, lambda: self.answer(board, word, name)

    def written(self, claims):
        return None if claims is None else "\n".join([claim_text(claim) for claim in claims]) or "-"

    def answer(self, board, word, name):
        system, state = board["s"], board.state("s")
        if word in ("claims", "standing", "lost", "sure"):
            return self.written(getattr(board, word)("s"))
        if word in ("run", "ready"):
            turns = board.turns("s") if word == "run" else ready(system, state)
            return ", ".join([turn_text(system, turn) for turn in turns]) or "-"
        if word == "cell":
            return str(held_in(system, state, name))
        if word == "lying":
            return " ".join([str(number) for number in lying(system, state, name)]) or "-"
        if word == "ended":
            return " ".join(ended_parts(system, state)) or "-"
        if word == "holder":
            return holder_of(system, state) or "-"
        return system_text(system) if word == "system" else report(system, board.claims("s"))

    def test_systems_of_all_kinds_come_back(self):
        maker = Maker(273)
        for _ in range(60):
            system = maker.system(parts=3, deeds=5)
            text = system_text(system)
            self.told("put s " + text.replace("\n", "\n ") + "\nsystem s", "done", text)
            self.assertTrue(is_system(system))
            self.assertEqual(edit_from("part p { " + block_text(system[2][0][1]) + " }"), ("part", "p", system[2][0][1]))

    def test_as_large_as_the_bounds_allow(self):
        system = free_clock((9, 9, 4))
        lines = ["put s " + system_text(system).replace("\n", "\n ")]
        claims = ["can x == 9", "moves", "checked", "back z == 1", "always x < 9", "keeps weak,weak,weak always ever w; w is z == 1"]
        lines.extend(["keep s " + claim for claim in claims] + ["turn s a 0"] * 30 + ["standing s", "sure s", "report s", "spoilt s remove c 0"])
        told = replies("\n".join(lines))
        self.assertEqual(told[-4], "back z == 1\ncan x == 9\nchecked\nkeeps weak,weak,weak always ever w; w is z == 1\nmoves")
        self.assertEqual(told[-1], "back z == 1\nkeeps weak,weak,weak always ever w; w is z == 1")
        long = "put s part a { " + " ; ".join(["pass"] * 20) + " }"
        self.assertEqual(len(replies("\n".join([long] * 200))), 200)

    def test_errors_of_edits_are_told_by_their_names(self):
        for edit, _ in EDITS:
            try:
                edited(SAMPLE, edit)
                wanted = "done"
            except ModelError as caught:
                wanted = "refused " + type(caught).__name__
            self.assertEqual(replies("put s " + system_text(SAMPLE).replace("\n", "\n ") + "\nedit s " + edit_text(edit)), ["done", wanted])


if __name__ == "__main__":
    unittest.main()
