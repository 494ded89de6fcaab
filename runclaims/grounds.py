"""GROUNDS: why a FORMULA is true of a LOOP; FORMULAS that tell LOOPS apart; the LOOPS
of which a FORMULA is true."""

from runclaims.errors import NoNumber
from runclaims.formulaparts import (
    add_rows, formula_rows, formulas_of, just, literal_between, truths_of,
)
from runclaims.formulas import has_next, inward, is_formula, is_true
from runclaims.loops import are_alike, told_there, without_repeats
from runclaims.plain import as_set, frozen, is_ascending, is_number, is_number_from, is_row


def grounds(formula, loop):
    """GROUNDS of it on the LOOP; None if it is not true of it."""
    rows = formula_rows(inward(formula))
    front, circle = frozen(loop)
    sets, back = front + circle, len(front)
    truths = truths_of(rows, sets, back)
    if not truths[-1][0]:
        return None
    todo, met = [(len(rows) - 1, 0)], {}
    while todo:
        at, place = todo.pop()
        if (at, place) not in met:
            behind = place + 1 if place + 1 < len(sets) else back
            met[(at, place)] = _put_off(rows[at], truths, place, back)
            todo.extend(_wanted(rows, truths, at, place, behind))
    whole = formulas_of(rows)
    return tuple(sorted([(whole[at], place, met[(at, place)]) for at, place in met]))


def is_grounds(formula, loop, thing):
    """Whether thing are GROUNDS of it on the LOOP."""
    front, circle = frozen(loop)
    if type(thing) is not tuple:
        return False
    if not all([_is_ground(row, len(front) + len(circle)) for row in thing]):
        return False
    if not is_ascending(thing):
        return False
    rows, numbers = [], {}
    aim = add_rows(rows, numbers, inward(formula))
    given = [(add_rows(rows, numbers, part), place, many) for part, place, many in thing]
    truths = truths_of(rows, front + circle, len(front))
    held = {(at, place): True for at, place, _ in given}
    counted = {triple: True for triple in given}
    if (aim, 0) not in held:
        return False
    return all([
        _has_wanted(rows, truths, (held, counted), triple, len(front)) for triple in given
    ])


def telling(loop, other):
    """A FORMULA that is true of loop, and not of other; None if there is none."""
    if are_alike(loop, other):
        return None
    number = 0
    while told_there(loop, number) == told_there(other, number):
        number += 1
    one, another = told_there(loop, number), told_there(other, number)
    formula = literal_between(one, another)
    for _ in range(number):
        formula = ("next", formula)
    return formula


def telling_still(loop, other):
    """A FORMULA without next that is true of loop, and not of other; None if there is none."""
    one, another = without_repeats(loop), without_repeats(other)
    if one == another:
        return None
    words = _words_in(one[0] + one[1] + another[0] + another[1])
    number = 0
    while told_there(one, number) == told_there(another, number):
        number += 1
    # Where one tells a set for ever, the other is the one to tell something new there.
    if number > 0 and told_there(one, number) == told_there(one, number - 1):
        return ("not", _comes_to(another, number, words))
    return _comes_to(one, number, words)


def is_telling(loop, other, thing):
    """Whether thing is a FORMULA that is true of loop, and not of other."""
    return is_formula(thing) and is_true(thing, loop) and not is_true(thing, other)


def is_telling_still(loop, other, thing):
    """Whether thing is such a FORMULA without next."""
    return is_telling(loop, other, thing) and not has_next(thing)


def true_loops(formula, words, front, circle):
    """The list of the LOOPS with these words alone and so many places of which it is true."""
    if front < 0:
        raise NoNumber(front)
    if circle < 1:
        raise NoNumber(circle)
    rows = formula_rows(frozen(formula))
    return [
        (sets[:front], sets[front:]) for sets in _rows_of_sets(words, front + circle)
        if truths_of(rows, sets, front)[-1][0]
    ]


def how_many_true(formula, words, front, circle):
    """How many of these LOOPS there are."""
    return len(true_loops(formula, words, front, circle))


def first_true(formula, words, many):
    """The least of those with the fewest places, at most many, of which it is true."""
    if many < 0:
        raise NoNumber(many)
    rows = formula_rows(frozen(formula))
    # Without words all LOOPS are alike.
    most = many if len(words) > 0 else min(many, 1)
    for places in range(1, most + 1):
        found = _first_with(rows, _rows_of_sets(words, places), places)
        if found is not None:
            return found
    return None


def _first_with(rows, sets_rows, places):
    """The least LOOP with so many places of which a FORMULA of rows is true; None if it
    is true of none with so many places that is alike to none with fewer."""
    best = None
    for front in range(places):
        for sets in sets_rows:
            if front > 0 and sets[front - 1] == sets[-1]:
                continue
            if truths_of(rows, sets, front)[-1][0]:
                loop = (sets[:front], sets[front:])
                best = loop if best is None else min(best, loop)
                break
        # A LOOP without a front is less than any other one.
        if best is not None and front == 0:
            break
    return best


def _rows_of_sets(words, many):
    """All tuples of so many sets of these words, ascending."""
    choices = [()]
    for word in words:
        choices = choices + [told + (word,) for told in choices]
    choices = sorted(choices)
    rows = [()]
    for _ in range(many):
        rows = [row + (told,) for row in rows for told in choices]
    return rows


def _put_off(row, truths, place, back):
    """How many places an until or an ever that is true waits for what it comes to; else 0."""
    if row[0] not in ("until", "ever"):
        return 0
    there = truths[row[-1]]
    many = 0
    while not there[place]:
        place = place + 1 if place + 1 < len(there) else back
        many += 1
    return many


def _wanted(rows, truths, at, place, behind):
    """The pairs (row, place) that a row that is true at a place wants: of those that
    would do the first ones."""
    row = rows[at]
    kind = row[0]
    if kind in ("true", "word", "not"):
        return []
    one, other = row[1], row[-1]
    if kind == "and":
        return [(one, place), (other, place)]
    if kind == "or":
        return [(one if truths[one][place] else other, place)]
    if kind == "next":
        return [(one, behind)]
    if kind == "always":
        return [(one, place), (at, behind)]
    if truths[other][place]:
        return [(other, place)]
    if kind == "ever":
        return [(at, behind)]
    return [(one, place), (at, behind)]


def _is_ground(thing, places):
    """Whether thing has the form of one of GROUNDS on a LOOP of so many places."""
    if not is_row(thing, 3) or not is_formula(thing[0]):
        return False
    part, place, number = thing
    if not is_number_from(place, 0, places - 1) or not is_number(number) or number < 0:
        return False
    return (number == 0 or part[0] in ("until", "ever")) and inward(part) == part


def _has_wanted(rows, truths, there, triple, back):
    """Whether what one of GROUNDS wants is there: held, whatever its number, or counted."""
    held, counted = there
    at, place, number = triple
    row = rows[at]
    kind = row[0]
    if kind in ("true", "word", "not"):
        return truths[at][place]
    behind = place + 1 if place + 1 < len(truths[at]) else back
    one, other = (row[1], place) in held, (row[-1], place) in held
    if kind == "next":
        return (row[1], behind) in held
    if kind == "and":
        return one and other
    if kind == "or":
        return one or other
    if kind == "always":
        return one and (at, behind) in held
    if kind == "unless":
        return other or (one and (at, behind) in held)
    if number == 0:
        return other
    return (kind == "ever" or one) and (at, behind, number - 1) in counted


def _words_in(sets):
    """The words that are told in some of these sets and not in all of them."""
    found = as_set([word for told in sets for word in told])
    return [word for word in found if not all([word in told for told in sets])]


def _comes_to(loop, number, words):
    """A FORMULA that tells the run of a LOOP without repeats up to this place."""
    formula = just(told_there(loop, number), words)
    for at in reversed(range(number)):
        here = just(told_there(loop, at), words)
        formula = ("and", here, ("until", here, formula))
    return formula
