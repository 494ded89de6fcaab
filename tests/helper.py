"""What several tests need: samples, values of all kinds, systems made at random."""

import random
import unittest

from goings import Goings
from runclaims.systems import is_system

ONE, TWO = ("number", 1), ("number", 2)
X, Y, Z = ("cell", "x"), ("cell", "y"), ("cell", "z")
LOW = ("less", X, TWO)
SET_X = ("let", "x", ONE)

# One part with a label, a pick and a put; one with an again, a once and a leave.
SAMPLE = (
    (("x", 3, 0), ("y", 3, 0)),
    (("q", 1, 3),),
    (
        ("a", (
            ("let", "x", ("sum", X, ONE)),
            ("label", "top"),
            ("pick", ((("when", LOW), ("go", "top")), (("else",),))),
            ("put", "q", X),
        )),
        ("b", (
            ("again", (
                (("get", "q", "y"), ("once", (
                    ("let", "x", ("sum", X, Y)), ("let", "y", ("number", 0)),
                ))),
                (("leave",),),
            )),
        )),
    ),
)
# What joins SAMPLE without a name in common; it hands over by a queue of room 0.
OTHER = (
    (("d", 9, 2),),
    (("h", 0, 4), ("r", 2, 9)),
    (
        ("give", (("put", "h", ("cell", "d")), ("label", "gone"), ("check", ("empty", "r")))),
        ("take", (("get", "h", "d"), ("when", ("stands", "give", "gone")), ("pass",))),
    ),
)


def with_parts(*blocks, cells=(("x", 3, 0), ("y", 3, 0)), queues=(("h", 0, 3), ("q", 2, 3))):
    """A system of these cells, queues, and of blocks for the parts a, b, c."""
    return (cells, queues, tuple(zip("abc", blocks)))


def deep(levels):
    """Nested lists and tuples, this deep."""
    thing = ()
    for number in range(levels - 1):
        thing = [thing] if number % 2 else (thing,)
    return thing


JUNK = (
    0, 1, -1, 10 ** 30, True, False, None, "", "x", "pass", "true", "word", (), [], ((),),
    ([],), (None,), (0,), (1, 2), ("x",), ("x", "x"), ("x", "x", "x"), (True, False), [[], ()],
    ("pass",), ["pass"], ("true",), (("x", 1, 0),), ((), (), ()), [(), (), ()], ((), ()),
    (("x",), ("x",)), ("not", None), ("not", ["true"]), ("number", True), ("cell", ("x",)),
    ("sum", ("number", 1)), ("and", ("true",)), ({}.__class__.__name__,), deep(30),
    ("not",) * 3, ((((),),),), ("let", "x", None), ("go",), ((0,), (0,), ((),), -1), ("else",),
)


def changed_things(thing):
    """Values near this one: each with one place of it changed; none is the thing itself."""
    yield [list(thing)][0] if isinstance(thing, tuple) else None
    if isinstance(thing, (tuple, list)):
        for at, inner in enumerate(thing):
            for other in changed_things(inner):
                yield thing[:at] + (other,) + thing[at + 1:]
            yield thing[:at] + thing[at + 1:]
            yield thing[:at + 1] + thing[at:]
        yield thing + (None,)
    else:
        for other in (True, None, "", "X", -1, 10, (), ("x",)):
            yield other


def listed(thing):
    """The same with a list in the place of each tuple."""
    if isinstance(thing, (tuple, list)):
        return [listed(inner) for inner in thing]
    return thing


class Case(unittest.TestCase):
    """Tests with a look at errors and at what they tell."""

    def assert_raises(self, error, told, call, *given, **named):
        """That the call raises just this error, with these values, by their names."""
        with self.assertRaises(ValueError) as caught:
            call(*given, **named)
        self.assertIs(type(caught.exception), error)
        self.assertEqual(vars(caught.exception), told)


class Maker:
    """Makes systems, states, formulas and loops at random, the same for the same seed."""

    def __init__(self, seed):
        self.random = random.Random(seed)

    def pick(self, *things):
        return self.random.choice(things)

    def value(self, cells, depth=2):
        if depth and cells and self.random.random() < 0.5:
            word = self.pick("sum", "gap", "times")
            return (word, self.value(cells, depth - 1), self.value(cells, depth - 1))
        if cells and self.random.random() < 0.6:
            return ("cell", self.pick(*cells))
        return ("number", self.random.randint(0, 9))

    def test(self, cells, roomy, labels, depth=2):
        kinds = ["same", "less"] + ["empty", "full"] * bool(roomy) + ["stands"] * bool(labels)
        if depth:
            kinds += ["not", "and", "or"]
        kind = self.pick(*kinds)
        if kind in ("same", "less"):
            return (kind, self.value(cells, 1), self.value(cells, 1))
        if kind in ("empty", "full"):
            return (kind, self.pick(*roomy))
        if kind == "stands":
            return (kind, *self.pick(*labels))
        inner = [self.test(cells, roomy, labels, depth - 1) for _ in range(2)]
        return (kind, inner[0]) if kind == "not" else (kind, *inner)

    def block(self, scope, many, depth, place):
        """A block of at most so many deeds; place: words told of where it stands."""
        found = []
        while len(found) < many:
            deed = self.deed(scope, depth, place, opener=not found)
            if deed is not None:
                found.append(deed)
        return tuple(found)

    def deed(self, scope, depth, place, opener):
        cells, queues, roomy, labels, spare = scope
        kind = self.pick(
            "pass", "let", "let", "put", "get", "when", "check", "label", "go", "pick",
            "again", "leave", "once", "put", "get",
        )
        inner = opener and place != ""
        if kind == "let" and cells:
            return (kind, self.pick(*cells), self.value(cells))
        if kind == "put" and queues:
            return (kind, self.pick(*queues), self.value(cells))
        if kind == "get" and queues and cells:
            return (kind, self.pick(*queues), self.pick(*cells))
        if kind in ("when", "check"):
            return (kind, self.test(cells, roomy, labels))
        if kind == "label" and spare and not inner and "once" not in place:
            return (kind, spare.pop())
        if kind == "go" and labels and "once" not in place:
            return (kind, self.pick(*labels)[1])
        if kind == "leave" and "leave" in place:
            return (kind,)
        if kind == "once" and depth and "once" not in place:
            return (kind, self.block(scope, self.random.randint(1, 3), depth - 1, "once"))
        if kind in ("pick", "again") and depth and not inner:
            there = place + " in" if kind == "pick" else place + " leave"
            return (kind, self.blocks(scope, depth - 1, there))
        return ("pass",) if kind == "pass" else None

    def blocks(self, scope, depth, place):
        many = self.random.randint(1, 3)
        blocks = [
            self.block(scope, self.random.randint(1, 2), depth, place) for _ in range(many)
        ]
        if many > 1 and self.random.random() < 0.5:
            blocks[-1] = (("else",),) + blocks[-1][1:]
        return tuple(blocks)

    def system(self, parts=2, deeds=3, depth=2):
        """A SYSTEM; tried anew until it is one."""
        while True:
            cells = tuple([
                (name, self.random.randint(1, 3), self.random.randint(0, 1))
                for name in sorted(self.random.sample("wxyz", self.random.randint(0, 2)))
            ])
            queues = tuple([
                (name, self.random.randint(0, 2), self.random.randint(1, 3))
                for name in sorted(self.random.sample("hqr", self.random.randint(0, 2)))
            ])
            found = []
            for name in "abc"[:parts]:
                labels = ["l", "m"][:self.random.randint(0, 2)]
                scope = (
                    [row[0] for row in cells], [row[0] for row in queues],
                    [row[0] for row in queues if row[1]], [(name, own) for own in labels],
                    list(labels),
                )
                many = self.random.randint(0, deeds)
                found.append((name, self.block(scope, many, depth, "")))
            system = (cells, queues, tuple(found))
            if is_system(system):
                return system

    def formula(self, words, depth):
        if depth == 0 or self.random.random() < 0.15:
            return ("true",) if self.random.random() < 0.2 else ("word", self.pick(*words))
        kind = self.pick(
            "not", "next", "ever", "always", "and", "or", "until", "unless",
        )
        if kind in ("not", "next", "ever", "always"):
            return (kind, self.formula(words, depth - 1))
        return (kind, self.formula(words, depth - 1), self.formula(words, depth - 1))

    def told(self, words):
        return tuple([word for word in words if self.random.random() < 0.5])

    def loop(self, words, places=4):
        front = self.random.randint(0, places - 1)
        circle = self.random.randint(1, places - front)
        sets = [self.told(words) for _ in range(front + circle)]
        return (tuple(sets[:front]), tuple(sets[front:]))

    def numbers(self, many):
        return tuple([at for at in range(many) if self.random.random() < 0.4])

    def machine(self, words, standings=4, moves=8, sets=2):
        """A MACHINE with at most so many of these; some moves of it can never be made."""
        many = self.random.randint(1, standings)
        rows = {
            (
                self.random.randrange(many), self.told(words), self.told(words),
                self.random.randrange(many),
            )
            for _ in range(self.random.randint(0, moves))
        }
        marks = [self.numbers(many) for _ in range(self.random.randint(0, sets))]
        return (many, self.numbers(many) or (0,), tuple(sorted(rows)), tuple(marks))

    def heard(self, system, words):
        """HEARD words, each with a TEST of the SYSTEM."""
        found = []
        cells, roomy = system[0], [row[0] for row in system[1] if row[1]]
        labels = [
            (part, deed[1]) for part, block in system[2] for deed in block if deed[0] == "label"
        ]
        for word in words:
            if cells and self.random.random() < 0.6:
                cell, top, _ = self.pick(*cells)
                found.append((word, ("same", ("cell", cell), ("number", self.random.randint(0, top)))))
            elif labels and self.random.random() < 0.5:
                found.append((word, ("stands", *self.pick(*labels))))
            else:
                found.append((word, self.test([row[0] for row in cells], roomy, labels, 1)))
        return tuple(found)

    def looping(self, most=8, parts=2):
        """A SYSTEM whose parts go round for ever or wait for each other; who is fair to
        them matters."""
        while True:
            found = []
            for name in "abc"[:parts]:
                deeds = [
                    self.pick(("pass",), counting("x"), counting("y"), ("let", "x", ONE), ("when", ("same", X, ONE)),
                              ("when", ("same", Y, ("number", 0))))
                    for _ in range(self.random.randint(1, 2))
                ]
                block = tuple(deeds)
                if self.random.random() < 0.4:
                    block = (("when", ("same", X, ("number", self.pick(0, 1)))), ("let", "y", ONE))
                if self.random.random() < 0.6:
                    block = (("again", (block,) + ((("pass",),),) * (self.random.random() < 0.2)),)
                found.append((name, block))
            system = ((("x", 1, 0), ("y", 1, 0)), (), tuple(found))
            if 2 <= len(Goings(system).all_states(most + 1)) <= most:
                return system

    def busy_deed(self, depth, in_once, cell):
        """A DEED of a part with this cell that often hands over, holds or chooses."""
        kind = self.pick("pass", "pass", "let", "put", "get", "when", "h put", "h get", "h put", "h get", "once", "pick", "again")
        if kind == "let":
            return (kind, cell, ("number", self.pick(0, 1)))
        if kind in ("put", "h put"):
            return ("put", "q" if kind == "put" else "h", ONE)
        if kind in ("get", "h get"):
            return ("get", "q" if kind == "get" else "h", cell)
        if kind == "when":
            return (kind, ("same", ("cell", self.pick("x", "y", cell)), ("number", self.pick(0, 1))))
        if kind == "once" and depth and not in_once:
            return (kind, self.busy_block(3, depth - 1, True, cell, True))
        if kind in ("pick", "again") and depth:
            blocks = [self.busy_block(2, depth - 1, in_once, cell, True) for _ in range(self.pick(1, 2, 2))]
            if len(blocks) > 1 and self.random.random() < 0.5:
                blocks[-1] = (("else",),) + blocks[-1][1:]
            return (kind, tuple(blocks))
        return ("pass",)

    def busy_block(self, many, depth, in_once, cell, inner):
        found = []
        for _ in range(self.random.randint(1, many)):
            deed = self.busy_deed(depth, in_once, cell)
            if inner and not found and deed[0] in ("pick", "again"):
                deed = ("pass",)
            found.append(deed)
        return tuple(found)

    def busy(self, most):
        """A SYSTEM with at most so many STATES in which parts often hand over, hold, choose."""
        cells = (("x", 1, 0), ("y", 1, 0), ("z", 1, 0))
        while True:
            parts = [(name, self.busy_block(4, 2, False, cell, False)) for name, cell in zip("abc"[:self.pick(2, 2, 3)], "xyz")]
            if self.random.random() < 0.3:
                check = ("check", ("same", ("cell", self.pick("x", "y", "z")), ("number", self.pick(0, 1))))
                parts = [(name, block + (check,)) for name, block in parts]
            system = (cells, (("h", 0, 1), ("q", 1, 1)), tuple(parts))
            if is_system(system) and 2 < len(Goings(system).all_states(most + 1)) <= most:
                return system

    def small(self, most=60, least=4, **sizes):
        """A SYSTEM with so many STATES."""
        while True:
            system = self.system(**sizes)
            if system[0] and least <= len(Goings(system).all_states(most + 1)) <= most:
                return system


def counting(cell):
    return ("let", cell, ("sum", ("cell", cell), ONE))


def ring(places, tops):
    """One part that counts its cells and goes round: joint states on one circle."""
    names = "mno"[:len(tops)]
    deeds = tuple([counting(name) for name in names]) + (("pass",),) * (places - len(tops))
    cells = tuple([(name, top, 0) for name, top in zip(names, tops)])
    return (cells, (), (("a", (("again", (deeds,)),)),))


def free_clock(tops):
    """A part for each cell that counts round for itself: STATES lead to many others."""
    cells = tuple([(name, top, 0) for name, top in zip("xyz", tops)])
    parts = [
        (name, (("again", ((counting(cell[0]),),)),))
        for name, cell in zip("abc", cells)
    ]
    return (cells, (), tuple(parts))
