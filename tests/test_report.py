"""Reports, texts of CLAIMS, what is told by texts that have the shape of a report."""

import unittest

from helper import JUNK, LOW, ONE, SAMPLE, X, Case, Maker, free_clock, listed, with_parts
from laps import some_laps
from papers import Said, small_systems, some_claims
from runclaims.claims import is_claim, stands
from runclaims.errors import BadLine, BadText, Unfit
from runclaims.formulas import formula_text
from runclaims.reach import broken_checks, broken_row, lost_row, row_against, stuck_row
from runclaims.report import claim_from, claim_text, is_report, report, told_verdicts
from runclaims.texts import test_text

P, PASS = ("word", "p"), ("pass",)
ZERO, TWO = ("same", X, ("number", 0)), ("same", X, ("number", 2))
COUNT = ("let", "x", ("sum", X, ONE))
CLOCK = ((("x", 2, 0),), (), (("a", (("again", ((COUNT,),)),)),))
NIL = ("keeps", (("nil", ZERO),), ("always", ("ever", ("word", "nil"))), ("none",))
GONE = ("keeps", (("nil", ZERO), ("two", TWO)), ("until", ("word", "nil"), ("word", "two")), ("none",))
SWAP = with_parts((("again", ((("put", "h", ONE),), (("get", "h", "x"),))),), (("again", ((("get", "h", "x"),), (("put", "h", TWO[2]),))),))


def plain_text(claim):
    if len(claim) == 1:
        return claim[0]
    if len(claim) == 2:
        return claim[0] + " " + test_text(claim[1])
    rows = ["keeps " + ",".join(claim[3]) + " " + formula_text(claim[2])]
    return "; ".join(rows + [word + " is " + test_text(test) for word, test in claim[1]])


def turn_rows(system, turns):
    names = [row[0] for row in system[2]]
    pairs = [[f"{names[part]} {step}" for part, step in (turn[:2], turn[2:])[:len(turn) // 2]] for turn in turns]
    return ["  " + (" to ".join(row) or "idle") for row in pairs]


def least_row(system, claim):
    if claim[0] == "can":
        return row_against(system, ("not", claim[1]))
    if claim[0] == "always":
        return row_against(system, claim[1])
    if claim[0] == "moves":
        return stuck_row(system)
    if claim[0] == "back":
        return lost_row(system, claim[1])
    return min([broken_row(system, *pair) for pair in broken_checks(system)], key=lambda row: (len(row), row))


def rows_of(system, claim, shown=None):
    """The rows of a report of one CLAIM, with this ROW or LAP, or the least ROW."""
    so = stands(system, claim)
    rows = [plain_text(claim) + (": stands" if so else ": falls")]
    if so != (claim[0] == "can"):
        return rows
    if claim[0] == "keeps":
        return rows + turn_rows(system, shown[0]) + ["  round"] + turn_rows(system, shown[1])
    return rows + turn_rows(system, least_row(system, claim) if shown is None else shown)


class Texts(Case):
    def test_texts_of_claims(self):
        for claim, text in (
            (("checked",), "checked"), (("moves",), "moves"), (("always", ZERO), "always x == 0"), (("can", ("not", ZERO)), "can [ not x == 0 ]"),
            (("back", ("and", LOW, ("stands", "a", "top"))), "back [ x < 2 and stands a top ]"), (NIL, "keeps none always ever nil; nil is x == 0"),
            (GONE, "keeps none [ nil until two ]; nil is x == 0; two is x == 2"), (("keeps", (), ("true",), ("none", "weak", "strong")), "keeps none,weak,strong true"),
            (("keeps", (("a", ("full", "q")),), ("next", ("word", "a")), ("strong", "weak")), "keeps strong,weak next a; a is full q"),
        ):
            self.assertEqual(claim_text(claim), text)
            self.assertEqual(claim_text(claim=listed(claim)), text)
            self.assertEqual(claim_from(text), claim)
            self.assertEqual(claim_from(text=text), claim)
        for maker, system in small_systems(261, 60):
            for claim in some_claims(maker, system, 4):
                self.assertEqual(claim_text(claim), plain_text(claim))
                self.assertEqual(claim_from(claim_text(claim)), claim)

    def test_other_ways_to_write_them(self):
        for text, claim in (
            ("always x==0", ("always", ZERO)), ("always   x  ==  0  ", ("always", ZERO)), ("always [ [x == 0] ]", ("always", ZERO)),
            ("can (x) == (0)", ("can", ZERO)), ("back not x==0 and x<2", ("back", ("and", ("not", ZERO), LOW))), ("always[x == 0]", ("always", ZERO)),
            ("keeps none  always  ever nil ; nil is x==0", NIL), ("keeps none [always[ever nil]]; nil is  [x==0] ", NIL),
            ("keeps none nil until two ; nil is x == 0; two is (x)==2", GONE), ("keeps none,none true or true and true", ("keeps", (), ("or", ("true",), ("and", ("true",), ("true",))), ("none", "none"))),
            ("can empty zoo", ("can", ("empty", "zoo"))), ("keeps weak nil; far is stands p l; nil is x == 0", ("keeps", (("far", ("stands", "p", "l")), ("nil", ZERO)), ("word", "nil"), ("weak",))),
        ):
            self.assertEqual(claim_from(text), claim, text)

    def test_what_is_no_claim(self):
        for text in (
            "", " ", "always", "always ", "always x", "always x ==", "can x == 10", "back x == 0 )", "alwaysx == 0", " always x == 0", "\nmoves", "checked ", " moves", "moves x < 2",
            "moved", "Moves", "always x == 0;", "always x == 0; nil is x == 0", "never x == 0", "keeps", "keeps none", "keeps none ", "keeps true", "keeps  none true", "keeps none, true",
            "keeps none,,none true", "keeps ,none true", "keeps none ,none true", "keeps none, none true", "keeps some true", "keeps None true", "keeps none nil", "keeps none nil; zoo is x == 0",
            "keeps none nil;nil is x == 0", "keeps none nil;  nil is x == 0", "keeps none nil; nil  is x == 0", "keeps none nil; nil iss x == 0", "keeps none nil; nil is", "keeps none nil; nil x == 0",
            "keeps none nil; two is x == 2; nil is x == 0", "keeps none nil; nil is x == 0; nil is x == 0", "keeps none nil; nil is x == 0;", "keeps none nil; ; nil is x == 0", "keeps none; nil is x == 0",
            "keeps none true; let is x == 0; always is x == 0", "keeps none true; Nil is x == 0", "keeps none nil until; nil is x == 0", "keeps none true true", "keepsnone true", "keeps none nil: stands",
            "always c = 0", "always x == 0\t", "can x == 00", "keeps none abcdefghi; abcdefghi is x == 0",
        ):
            self.assert_raises(BadText, {"piece": 0}, claim_from, text)
            self.assert_raises(BadText, {"piece": 0}, claim_from, text=text)


class Reports(Case):
    def test_reports(self):
        kinds = set()
        for maker, system in small_systems(262, 120):
            claims = tuple(some_claims(maker, system, 3))
            text = report(system, claims)
            self.assertEqual(report(listed(system), listed(claims)), text)
            rows, lines = [], text.split("\n")
            for claim in claims:
                so = stands(system, claim)
                kinds.add((claim[0], so))
                if claim[0] == "keeps" and not so:
                    head = [plain_text(claim) + ": falls"]
                    self.assertEqual(lines[len(rows):len(rows) + 1], head)
                    size = 1
                    while len(rows) + size < len(lines) and lines[len(rows) + size].startswith("  "):
                        size += 1
                    rows.extend(lines[len(rows):len(rows) + size])
                else:
                    rows.extend(rows_of(system, claim))
            self.assertEqual(lines, rows)
            self.assertIs(is_report(system, claims, text), True)
            self.assertEqual(told_verdicts(system, text), tuple([(claim, "stands" if stands(system, claim) else "falls") for claim in claims]))
            self.assertIs(is_report(system, claims[:2], text), False)
            self.assertIs(is_report(system, claims + claims[:1], text), False)
        self.assertEqual(len(kinds), 12)

    def test_the_empty_one(self):
        self.assertEqual(report(SAMPLE, ()), "")
        self.assertEqual(report(SAMPLE, []), "")
        self.assertIs(is_report(SAMPLE, (), ""), True)
        self.assertEqual(told_verdicts(SAMPLE, ""), ())
        for thing in JUNK + ("\n", " ", "moves: stands"):
            self.assertIs(is_report(SAMPLE, (), thing), thing == "")

    def test_whichever_rows_and_laps(self):
        counts = {}
        for maker, system in small_systems(263, 120):
            said = Said(system)
            for claim in some_claims(maker, system, 3):
                so = stands(system, claim)
                if so != (claim[0] == "can"):
                    continue
                for lap in some_laps(maker, said.goings, 3):
                    row = tuple([turn for turn in lap[0] + lap[1] if turn != ()])
                    shown = lap if claim[0] == "keeps" else row[:maker.random.randint(0, len(row))]
                    if claim[0] == "keeps":
                        good = said.is_against(claim, shown)
                    elif claim[0] == "back":
                        good = said.lost(claim[1], said.row(shown)[-1])
                    else:
                        good = said.is_for(claim, shown) if so else said.is_against(claim, shown)
                    counts[(claim[0], good)] = True
                    text = "\n".join(rows_of(system, claim, shown))
                    self.assertIs(is_report(system, (claim,), text), good, (system, claim, shown))
                    self.assertEqual(told_verdicts(system, text), ((claim, "stands" if so else "falls"),))
        self.assertGreater(len(counts), 10, counts)

    def test_near_texts(self):
        claims = (("can", TWO), ("moves",), ("always", ZERO), GONE)
        text = "can x == 2: stands\n  a 0\n  a 0\nmoves: stands\nalways x == 0: falls\n  a 0\n" + claim_text(GONE) + ": falls\n  round\n  a 0\n  a 0\n  a 0"
        self.assertIs(is_report(CLOCK, claims, text), True)
        self.assertIs(is_report(CLOCK, claims, text.replace("  round\n  a 0", "  a 0\n  round")), False)
        self.assertIs(is_report(CLOCK, claims, text.replace("  round", "  a 0\n  round")), True)
        self.assertIs(is_report(CLOCK, claims, text + "\n  a 0" * 3), True)
        self.assertIs(is_report(CLOCK, claims, text.replace("stands\n  a 0\n  a 0", "stands" + "\n  a 0" * 5)), True)
        self.assertIs(is_report(CLOCK, [list(claim) for claim in claims], text), True)
        for at in range(len(text)):
            near = text[:at] + text[at + 1:]
            if near != text:
                self.assertIs(is_report(CLOCK, claims, near), False, near)
            if text[at] != "\n":
                self.assertIs(is_report(CLOCK, claims, text[:at] + "\n" + text[at:]), False)
            self.assertIs(is_report(CLOCK, claims, text[:at] + text[at] + text[at:]), False)
        for old, new in (("stands", "falls"), ("x == 2", "x==2"), ("  a 0", "  a 00"), ("  a 0", "   a 0"), ("  a 0", "  a 1"), ("  a 0", "  idle"), ("moves: stands", "moves: stands\n  a 0"), ("can x == 2", "can [ x == 2 ]")):
            self.assertIs(is_report(CLOCK, claims, text.replace(old, new)), False, new)
        for thing in JUNK + (text + "\n", "\n" + text, [text], (text,), text + " "):
            self.assertIs(is_report(CLOCK, claims, thing), False)
        self.assertIs(is_report(CLOCK, claims[::-1], text), False)

    def test_great_numbers(self):
        claims, swap = (("can", TWO), ("always", ZERO), NIL), (("can", TWO),)
        text = "can x == 2: stands\n  a 0\n  a 0\nalways x == 0: falls\n  a 0\n" + claim_text(NIL) + ": stands"
        self.assertIs(is_report(CLOCK, claims, text), True)
        for digits in (1, 640, 4301, 5000):
            great = "9" * digits
            self.assertIs(is_report(CLOCK, claims, text.replace("a 0", "a " + great, 1)), False)
            self.assertIs(is_report(CLOCK, claims, text.replace("a 0", "a 0 to a " + great, 1)), False)
            self.assertIs(is_report(CLOCK, claims, text.replace("falls\n  a 0", "falls\n  a " + great)), False)
            self.assertIs(is_report(CLOCK, claims, text.replace("x == 2", "x == 2" + great)), False)
            self.assertIs(is_report(CLOCK, (GONE,), claim_text(GONE) + ": falls\n  round\n  a " + great), False)
            self.assertIs(is_report(CLOCK, (GONE,), claim_text(GONE) + ": falls\n  a " + great + "\n  round\n  a 0"), False)
            for turn in ("b 1 to a " + great, "b " + great + " to a 1", "b " + great):
                self.assertIs(is_report(SWAP, swap, "can x == 2: stands\n  " + turn), False)
                self.assertEqual(told_verdicts(SWAP, "can x == 2: stands\n  " + turn), ((swap[0], "stands"),))
            self.assertIs(is_report(SWAP, swap, "can x == 2: stands\n  b 1 to a 1"), True)

    def test_deep_and_long_texts(self):
        many = 5000
        for text in (
            "can " + "[" * many + "x == 2" + "]" * many + ": stands\n  a 0\n  a 0", "can " + "(" * many + "x" + ")" * many + " == 2: stands\n  a 0\n  a 0", "always " + "not " * many + "x == 0: falls\n  a 0", "always " + "[ not " * many + "x == 0" + " ]" * many + ": falls\n  a 0",
            "always " + "( " * many + "x" + " + 1 )" * many + " == 0: falls\n  a 0", "back " + "[ x == 0 or " * many + "x == 0" + " ]" * many + ": stands", "keeps none " + "next " * many + "true: stands", "keeps none " + "[ true until " * many + "true" + " ]" * many + ": stands",
            "keeps none true; w is " + "[ not " * many + "x == 0" + " ]" * many + ": stands", "can " + "[" * many, "keeps none " + "[" * many + "true" + "]" * (many - 1) + ": stands",
        ):
            for claims in ((), (("can", TWO),), (("always", ZERO),), (("always", ("not", ZERO)),), (("keeps", (), ("next", ("true",)), ("none",)),)):
                self.assertIs(is_report(CLOCK, claims, text), False, text[:30])
        self.assertIs(is_report(CLOCK, (("can", TWO),), "can x == 2: stands" + "\n  a 0" * (3 * many + 2)), True)
        self.assertIs(is_report(CLOCK, (("can", TWO),), "can x == 2: stands" + "\n  a 0" * (3 * many + 1)), False)
        self.assertIs(is_report(CLOCK, (("can", TWO),), "can x == 2: stands\n  a 0\n  a 0" + "\nmoves: stands" * many), False)
        self.assertIs(is_report(CLOCK, (GONE,), claim_text(GONE) + ": falls\n  round" + "\n  a 0" * (3 * many)), True)

    def test_claims_as_deep_as_the_text(self):
        many = 3000
        deep = told_verdicts(CLOCK, "always " + "[ not " * many + "x == 0" + " ]" * many + ": falls\n  a 0")
        self.assertEqual(claim_text(deep[0][0]), "always " + "[ not " * many + "x == 0" + " ]" * many)
        self.assertEqual(claim_text(claim_from("always " + "not " * many + "x==0")), claim_text(deep[0][0]))
        self.assertEqual(claim_text(claim_from("keeps none " + "ever " * many + "true")), "keeps none " + "ever " * many + "true")

    def test_what_is_no_claim_is_refused(self):
        for claims in ((("always", ("empty", "z")),), (("moves",), ("moves", LOW)), ((),)):
            self.assert_raises(Unfit, {}, report, SAMPLE, claims)
            for thing in (None, "", "moves: stands", ["x"]):
                self.assert_raises(Unfit, {}, is_report, SAMPLE, claims, thing)
        self.assertIs(is_claim(SAMPLE, ("moves",)), True)

    def test_hand_overs_and_idle_turns(self):
        self.assertEqual(report(SWAP, (("can", TWO),)), "can x == 2: stands\n  b 1 to a 1")
        ended = with_parts((PASS,), ())
        never = ("keeps", (("p", ZERO),), ("not", ("always", P)), ("none", "strong"))
        self.assertEqual(report(ended, (never,)).split("\n")[-2:], ["  round", "  idle"])
        text = claim_text(never) + ": falls\n  a 0\n  idle\n  round\n  idle\n  idle"
        self.assertIs(is_report(ended, (never,), text), True)
        self.assertIs(is_report(ended, (("always", LOW),), "always x < 2: stands\n  idle"), False)
        self.assertIs(is_report(ended, (("can", ZERO),), "can x == 0: stands\n  a 0"), True)
        self.assertIs(is_report(ended, (("can", ZERO),), "can x == 0: stands\n  a 0\n  idle"), False)
        self.assertEqual(report(ended, (("can", ZERO), ("can", TWO))), "can x == 0: stands\ncan x == 2: falls")

    def test_the_least_of_the_checks_that_break(self):
        broken = ("check", ("less", ONE, ONE))
        system = with_parts((PASS, PASS, broken), (PASS, broken, broken))
        self.assertEqual(report(system, (("checked",),)), "checked: falls\n  b 0\n  b 1")
        self.assertIs(is_report(system, (("checked",),), "checked: falls\n  b 0\n  b 1\n  b 2"), True)
        self.assertIs(is_report(system, (("checked",),), "checked: falls\n  b 0"), False)
        self.assertIs(is_report(system, (("checked",),), "checked: falls"), False)

    def test_as_large_as_the_bounds_allow(self):
        system = free_clock((9, 9, 4))
        heard = (("w", ("same", ("cell", "z"), ONE)),)
        often = ("keeps", heard, ("always", ("ever", ("word", "w"))), ("weak", "weak", "none"))
        far = ("always", ("not", ("and", ("same", X, ("number", 9)), ("same", ("cell", "y"), ("number", 9)))))
        text = report(system, (often, far, ("moves",), ("back", heard[0][1])))
        self.assertIs(is_report(system, (often, far, ("moves",), ("back", heard[0][1])), text), True)
        self.assertIn("\n" + "  a 0\n" * 9 + "  b 0\n" * 9 + "moves: stands", text)


class Shapes(Case):
    def good(self, text, *told):
        self.assertEqual(told_verdicts(CLOCK, text), told)
        self.assertEqual(told_verdicts(listed(CLOCK), text=text), told)

    def bad(self, number, text, system=CLOCK):
        self.assert_raises(BadLine, {"number": number}, told_verdicts, system, text)

    def test_shapes_be_they_so_or_not(self):
        self.good("moves: falls", (("moves",), "falls"))
        self.good("moves: falls\n  a 7\n  a 99 to a 0\nmoves: stands", (("moves",), "falls"), (("moves",), "stands"))
        self.good("can x == 2: stands", (("can", TWO), "stands"))
        self.good("can x == 2: falls\nchecked: falls\n  a 0", (("can", TWO), "falls"), (("checked",), "falls"))
        self.good("checked: falls\nback x == 0: falls\n  a 12345678901234567890", (("checked",), "falls"), (("back", ZERO), "falls"))
        self.good(claim_text(NIL) + ": stands", (NIL, "stands"))
        self.good(claim_text(NIL) + ": falls\n  round\n  idle", (NIL, "falls"))
        self.good(claim_text(NIL) + ": falls\n  idle\n  a 0\n  round\n  a 3\n  idle\nmoves: stands", (NIL, "falls"), (("moves",), "stands"))

    def test_rows_that_have_it_not(self):
        nil = claim_text(NIL)
        for number, text in (
            (0, "\n"), (0, " "), (0, "moves"), (0, "moves:stands"), (0, "moves: stand"), (0, "moves: Stands"), (0, "moves : stands"), (0, "moves: stands "), (0, " moves: stands"),
            (0, "moves: stands: falls"), (0, "  a 0"), (0, "  round"), (0, "always x==0: stands"), (0, "always [ x == 0 ]: stands"), (0, "always z == 0: stands"), (0, "can empty q: falls"),
            (0, "keeps none,none true: stands"), (0, "keeps none nil; nil is z == 0: stands"), (0, "keeps none nil: stands"), (0, "can stands b l: stands"), (1, "moves: stands\n"),
            (1, "moves: stands\n\nmoves: stands"), (1, "moves: stands\n  a 0"), (1, "can x == 2: falls\n  a 0"), (1, "can x == 2: stands\n  b 0"), (1, "moves: falls\n a 0"),
            (1, "moves: falls\n   a 0"), (1, "moves: falls\n  a"), (1, "moves: falls\n  a 00"), (1, "moves: falls\n  a 01"), (1, "moves: falls\n  a -1"), (1, "moves: falls\n  a  0"),
            (1, "moves: falls\n  a 0 "), (1, "moves: falls\n  a 0 to"), (1, "moves: falls\n  a 0 to b 0"), (1, "moves: falls\n  a 0 TO a 0"), (1, "moves: falls\n  idle"), (1, "moves: falls\n  round"),
            (2, "moves: falls\n  a 0\n  round\n  a 0"), (2, "moves: falls\n  a 0\n"), (3, "moves: falls\n  a 0\nmoves: stands\nmoves"), (1, nil + ": falls\nmoves: stands"),
            (2, nil + ": falls\n  a 0\nmoves: stands"), (2, nil + ": falls\n  round\nmoves: stands"), (3, nil + ": falls\n  round\n  a 0\n  round\n  a 0"), (2, nil + ": falls\n  round\n  b 0"),
            (1, nil + ": stands\n  round\n  a 0"), (1, nil + ": falls\n   round\n  a 0"), (1, nil + ": falls\n  round \n  a 0"), (1, nil + ": falls"), (2, nil + ": falls\n  a 0"), (2, nil + ": falls\n  round"),
            (0, "Moves: stands\nmoves"), (1, "moves: stands\nalways q == 0: stands\n  a 0"),
        ):
            self.bad(number, text)
        self.bad(0, "keeps none true: stands", SAMPLE)
        self.assertEqual(told_verdicts(SAMPLE, "moves: falls\n  b 0 to a 3"), ((("moves",), "falls"),))

    def test_the_same_for_texts_made_at_random(self):
        maker = Maker(264)
        rows = ("moves: stands", "moves: falls", claim_text(NIL) + ": falls", "can x == 2: stands", "  a 0", "  round", "  idle", "  a 0", "x")
        for _ in range(600):
            text = [maker.pick(*rows) for _ in range(maker.random.randint(1, 7))]
            wanted = self.first_bad(text)
            if wanted is None:
                told = [row for row in text if not row.startswith("  ")]
                self.assertEqual([word for _, word in told_verdicts(CLOCK, "\n".join(text))], [row.split(": ")[1] for row in told])
            else:
                self.bad(wanted, "\n".join(text))

    def first_bad(self, text):
        """The number of the first row that has not the shape; how many there are if one is lacking."""
        place = "head"
        for at, row in enumerate(text):
            turn = row == "  a 0" or row == "  idle" and place in ("front", "empty", "round")
            if place == "row" and turn or place == "front" and turn or place == "round" and turn:
                continue
            if place == "empty" and turn:
                place = "round"
            elif place == "front" and row == "  round":
                place = "empty"
            elif place in ("front", "empty") or row.startswith("  ") or row == "x":
                return at
            else:
                place = {"moves: stands": "head", claim_text(NIL) + ": falls": "front"}.get(row, "row")
        return len(text) if place in ("front", "empty") else None


if __name__ == "__main__":
    unittest.main()
