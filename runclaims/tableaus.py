"""Works made for FORMULAS.

A standing is a pair of bits of rows [formulaparts] of the FORMULA turned inward:
of those that must be true from here on, and of those until and ever among them
that were put off by the move that led here. Each until and ever has a set of
marks: the standings where it was not put off.
"""

from runclaims.formulaparts import TRUE, formula_rows, opposites_of
from runclaims.graphs import explored
from runclaims.lessening import lessened
from runclaims.plain import as_set
from runclaims.works import Works


def works_for(formula):
    """Works that take just the LOOPS of which a FORMULA of tuples is true."""
    return _works_of_inward(opposites_of(formula_rows(formula))[-1][0])


def works_against(formula):
    """Works that take just the LOOPS of which a FORMULA of tuples is not true."""
    return _works_of_inward(opposites_of(formula_rows(formula))[-1][1])


def _works_of_inward(formula):
    """Works for a FORMULA turned inward."""
    rows = formula_rows(formula)
    words = as_set([row[1] for row in rows if row[0] == "word"])
    pending = [at for at, row in enumerate(rows) if row[0] in ("until", "ever")]

    def rows_of(pair):
        return [((yes, no), (later, late)) for yes, no, later, late in _terms(rows, words, pair[0])]

    pairs, found = explored([(1 << (len(rows) - 1), 0)], rows_of)
    masks = [
        sum([1 << place for place, at in enumerate(pending) if not late & (1 << at)])
        for _, late in pairs
    ]
    return lessened(Works(words, [0], found, masks, len(pending)))


def _terms(rows, words, wanted):
    """The least ways to have all wanted rows true: (yes, no, later, late), bits of the
    words told and not told now, and of the rows that are wanted and put off behind."""
    found = []
    todo = [(wanted, 0, 0, 0, 0, 0)]
    while todo:
        ahead, done, yes, no, later, late = todo.pop()
        if ahead == 0:
            found.append((yes, no, later, late))
            continue
        at = ahead.bit_length() - 1
        done |= 1 << at
        for more, also_yes, also_no, behind, put_off in _choices(rows, words, at):
            if (yes | also_yes) & (no | also_no) == 0:
                todo.append((
                    (ahead | more) & ~done, done, yes | also_yes, no | also_no,
                    later | behind, late | put_off,
                ))
    return _least_terms(found)


def _choices(rows, words, at):
    """The ways to have a row true: bits of other rows wanted now, of words told and not
    told, of rows wanted and put off behind."""
    row, own = rows[at], 1 << at
    kind = row[0]
    if kind == "true":
        return [(0, 0, 0, 0, 0)]
    if kind == "word":
        return [(0, 1 << words.index(row[1]), 0, 0, 0)]
    if kind == "not":
        within = rows[row[1]]
        if within == TRUE:
            return []
        return [(0, 0, 1 << words.index(within[1]), 0, 0)]
    one = 1 << row[1]
    if kind == "next":
        return [(0, 0, 0, one, 0)]
    if kind == "ever":
        return [(one, 0, 0, 0, 0), (0, 0, 0, own, own)]
    if kind == "always":
        return [(one, 0, 0, own, 0)]
    other = 1 << row[2]
    if kind == "and":
        return [(one | other, 0, 0, 0, 0)]
    if kind == "or":
        return [(one, 0, 0, 0, 0), (other, 0, 0, 0, 0)]
    return [(other, 0, 0, 0, 0), (one, 0, 0, own, own if kind == "until" else 0)]


def _least_terms(terms):
    """The terms, ascending, without those that ask for all that another one asks for."""
    kept = []
    for term in sorted(set(terms)):
        if not any([_is_within(other, term) for other in kept]):
            kept = [other for other in kept if not _is_within(term, other)] + [term]
    return kept


def _is_within(one, other):
    """Whether one asks for nothing that other does not ask for, bits by bits."""
    return all([bits & ~more == 0 for bits, more in zip(one, other)])
