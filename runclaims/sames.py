"""What systems tell: TOLD ROWS, what is told alike, and SOON FORMULAS."""

from runclaims.errors import Unfit
from runclaims.fields import field_of
from runclaims.formulaparts import just
from runclaims.formulas import is_formula
from runclaims.loops import squeezed_sets
from runclaims.plain import frozen
from runclaims.soon import Soon, is_kept_soon
from runclaims.tellings import Tellings, first_apart, is_told_form


def rows_told(system, heard, number):
    """The ascending list of the TOLD ROWS of so many sets."""
    tellings = _tellings(system, heard)
    rows = [((), 0)]
    for _ in range(number):
        rows = [
            ((*row, told), goal) for row, bits in rows for told, goal in tellings.led_on(bits).items()
        ]
    return [row for row, _ in rows]


def how_many_told(system, heard, number):
    """How many TOLD ROWS of so many sets there are."""
    tellings = _tellings(system, heard)
    many = {0: 1}
    for _ in range(number):
        ahead = {}
        for bits in many:
            for goal in tellings.led_on(bits).values():
                ahead[goal] = ahead.get(goal, 0) + many[bits]
        many = ahead
    return sum([many[bits] for bits in many])


def is_row(system, heard, thing):
    """Whether thing is a TOLD ROW."""
    if not is_told_form(thing) or len(thing) == 0:
        return False
    return _tellings(system, heard).behind_row(thing) is not None


def row_apart(one, ones, other, others):
    """The least of the shortest TOLD ROWS that just one of both has; None if there is none."""
    found = _first_apart(one, ones, other, others)
    return None if found is None else found[0]


def tell_alike(one, ones, other, others):
    """Whether each TOLD ROW of either system is one of the other."""
    return row_apart(one, ones, other, others) is None


def formula_apart(one, ones, other, others):
    """A SOON FORMULA that just one of both keeps; None if there is none."""
    row = row_apart(one, ones, other, others)
    if row is None:
        return None
    words = [pair[0] for pair in ones]
    formula = just(row[-1], words)
    for told in row[-2::-1]:
        formula = ("and", just(told, words), ("next", formula))
    return ("not", formula)


def keeps_soon(system, heard, formula):
    """Whether a SOON FORMULA is true of all runs."""
    soon = Soon(frozen(formula))
    if not soon.is_soon():
        raise Unfit()
    return is_kept_soon(_tellings(system, heard), soon)


def is_formula_apart(one, ones, other, others, thing):
    """Whether thing is a SOON FORMULA that just one of both keeps."""
    _refuse_unlike(ones, others)
    if not is_formula(thing):
        return False
    soon = Soon(thing)
    if not soon.is_soon():
        return False
    return is_kept_soon(_tellings(one, ones), soon) != is_kept_soon(_tellings(other, others), soon)


def squeezed(row):
    """The tuple of sets without those that are like the one right ahead of them."""
    return squeezed_sets(frozen(row))


def _tellings(system, heard):
    """What is told along the runs of a system."""
    return Tellings(field_of(system), frozen(heard), False)


def _refuse_unlike(ones, others):
    """Raise Unfit unless the words of both are the same."""
    if [pair[0] for pair in ones] != [pair[0] for pair in others]:
        raise Unfit()


def _first_apart(one, ones, other, others):
    """A row that just one of both tells, as first_apart has it; None if there is none."""
    _refuse_unlike(ones, others)
    return first_apart(_tellings(one, ones), _tellings(other, others))
