"""Whether any value is a CLAIM."""

from runclaims.fair import WORDS
from runclaims.formulas import is_formula, words_of
from runclaims.plain import is_row
from runclaims.shapes import is_heard_in, is_test_in, scope_of

ALONE = ("checked", "moves")
WITH_TEST = ("always", "can", "back")


def is_claim_of(system, thing):
    """Whether thing is a CLAIM of a SYSTEM of tuples."""
    if is_row(thing, 1):
        return thing[0] in ALONE
    scope = scope_of(system)
    if is_row(thing, 2):
        return thing[0] in WITH_TEST and is_test_in(scope, thing[1])
    if not is_row(thing, 4) or thing[0] != "keeps":
        return False
    _, heard, formula, kinds = thing
    if not is_heard_in(scope, heard) or not are_kinds(kinds, len(system[2])):
        return False
    return is_formula(formula) and has_heard(heard, formula)


def are_kinds(thing, many):
    """Whether thing are KINDS of so many parts."""
    return is_row(thing, many) and all([word in WORDS for word in thing])


def has_heard(heard, formula):
    """Whether all words of a FORMULA are heard."""
    known = {word: True for word, _ in heard}
    return all([word in known for word in words_of(formula)])
