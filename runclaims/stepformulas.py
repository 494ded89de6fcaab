"""STEP FORMULAS: what they are, and at which nodes of a graph they are true.

A graph is told as in graphs; sets has what is told at each node.
"""

from runclaims.formulaparts import formula_rows
from runclaims.plain import is_name, is_row


def is_step_form(thing, plainly):
    """Whether thing is a STEP FORMULA; plainly: one with not ahead of words alone."""
    # An own stack: what is made from graphs may be deep.
    todo = [thing]
    while todo:
        piece = todo.pop()
        if not _is_piece(piece):
            return False
        if plainly and piece[0] == "not" and not _is_word(piece[1]):
            return False
        if piece[0] != "word":
            todo.extend(piece[1:])
    return True


def depth_of(formula):
    """How many some stand within one another at most in a STEP FORMULA of tuples."""
    depths = []
    for row in formula_rows(formula):
        within = () if row[0] == "word" else row[1:]
        deepest = max([depths[number] for number in within], default=0)
        depths.append(deepest + 1 if row[0] == "some" else deepest)
    return depths[-1]


def bits_where_true(formula, sets, behind):
    """The bits of the nodes at which a STEP FORMULA of tuples is true."""
    every = (1 << len(sets)) - 1
    masks = goal_masks(behind)
    found = []
    for row in formula_rows(formula):
        kind = row[0]
        if kind == "true":
            found.append(every)
        elif kind == "word":
            found.append(bits_telling(sets, row[1]))
        elif kind == "not":
            found.append(every & ~found[row[1]])
        elif kind == "and":
            found.append(found[row[1]] & found[row[2]])
        else:
            found.append(bits_leading(masks, found[row[1]]))
    return found[-1]


def goal_masks(behind):
    """For each node the bits of those to which it leads."""
    return [sum([1 << goal for goal in row]) for row in behind]


def bits_leading(masks, bits):
    """The bits of the nodes that lead to some of these."""
    found = 0
    for node, mask in enumerate(masks):
        if mask & bits:
            found |= 1 << node
    return found


def bits_telling(sets, word):
    """The bits of the nodes at which a word is told."""
    found = 0
    for node, told in enumerate(sets):
        if word in told:
            found |= 1 << node
    return found


def _is_word(thing):
    """Whether thing is a word as a FORMULA."""
    return is_row(thing, 2) and thing[0] == "word"


def _is_piece(thing):
    """Whether thing has the form of a STEP FORMULA, whatever stands in the place of those in it."""
    if is_row(thing, 1):
        return thing[0] == "true"
    if is_row(thing, 2):
        return thing[0] in ("not", "some") or (thing[0] == "word" and is_name(thing[1]))
    return is_row(thing, 3) and thing[0] == "and"
