"""FORMULAS: what they mean, what they are turned into, their texts."""

from runclaims.formulaparts import (
    ONE, TWO, cores_of, formula_rows, formulas_of, left_of, opposites_of, truths_of,
)
from runclaims.language import pieces
from runclaims.loops import place_of_run
from runclaims.piles import read_joined
from runclaims.plain import as_set, frozen, is_name
from runclaims.reading import Reader
from runclaims.writing import row_written

# Brackets, words that turn one, words that join two: see read_joined.
SIGNS = (
    "[", "]", ("not", "next", "ever", "always"),
    (("or", 1, "or"), ("and", 2, "and"), ("until", 3, "until"), ("unless", 3, "unless")),
)


def is_formula(thing):
    """Whether thing is a FORMULA."""
    todo = [thing]
    while todo:
        piece = todo.pop()
        if not _is_piece(piece):
            return False
        if piece[0] != "word":
            todo.extend(piece[1:])
    return True


def pieces_in(formula):
    """The set of the FORMULAS that stand in it, itself too."""
    return tuple(sorted(formulas_of(_rows(formula))))


def words_of(formula):
    """The set of its words."""
    return as_set([row[1] for row in _rows(formula) if row[0] == "word"])


def size_of(formula):
    """How many tuples it is made of."""
    sizes = []
    for row in _rows(formula):
        within = () if row[0] == "word" else row[1:]
        sizes.append(1 + sum([sizes[number] for number in within]))
    return sizes[-1]


def has_next(formula):
    """Whether next stands in it."""
    return any([row[0] == "next" for row in _rows(formula)])


def places_true(formula, loop):
    """The set of the places of the LOOP at which it is true."""
    return tuple([at for at, there in enumerate(_truths(formula, loop)) if there])


def is_true(formula, loop):
    """Whether it is true of the LOOP."""
    return _truths(formula, loop)[0]


def true_at(formula, loop, number):
    """Whether it is true at this place of the run."""
    front, circle = frozen(loop)
    place = place_of_run(front, circle, number)
    return _truths(formula, loop)[place]


def opposite(formula):
    """The OPPOSITE of it."""
    return opposites_of(_rows(formula))[-1][1]


def inward(formula):
    """It turned inward."""
    return opposites_of(_rows(formula))[-1][0]


def core(formula):
    """It made of true, words, not, and, next and until alone."""
    return cores_of(_rows(formula))[-1]


def left(formula, told):
    """What is left of it behind a set that is told."""
    return left_of(_rows(formula), frozen(told))[-1]


def left_behind(formula, row):
    """What is left of it behind all of these sets."""
    found = frozen(formula)
    for told in row:
        found = left(found, told)
    return found


def formula_text(formula):
    """The text of a FORMULA."""
    return " ".join(row_written(frozen(formula), _parts_written))


def formula_from(text):
    """The FORMULA that is so written."""
    reader = Reader(pieces(text))
    formula = read_joined(reader, SIGNS, _read_least)
    reader.finish()
    return formula


def _rows(formula):
    """The rows of a FORMULA."""
    return formula_rows(frozen(formula))


def _truths(formula, loop):
    """Whether it is true at each place of the LOOP."""
    front, circle = frozen(loop)
    return truths_of(_rows(formula), front + circle, len(front))[-1]


def _is_piece(thing):
    """Whether thing has the form of a FORMULA, whatever stands in the place of those in it."""
    if type(thing) is not tuple or len(thing) == 0:
        return False
    if thing[0] == "true":
        return len(thing) == 1
    if thing[0] == "word":
        return len(thing) == 2 and is_name(thing[1])
    if thing[0] in ONE:
        return len(thing) == 2
    return thing[0] in TWO and len(thing) == 3


def _parts_written(formula):
    """The pieces and the FORMULAS of which the text of a FORMULA is made."""
    if formula[0] in ("true", "word"):
        return (formula[-1],)
    if formula[0] in ONE:
        return formula
    return ("[", formula[1], formula[0], formula[2], "]")


def _read_least(reader):
    """true or a word."""
    if reader.now() == "true":
        return (reader.step(),)
    return ("word", reader.read_name())
