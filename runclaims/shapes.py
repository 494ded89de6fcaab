"""Whether any value is a VALUE, a TEST, HEARD words, a SYSTEM.

A scope tells what may be named: a tuple of the cells, of the queues, of the
queues with a room from 1, and of the pairs (part, label).
"""

from runclaims.plain import is_name, is_number_from, is_row
from runclaims.walks import deeds_in, labels_in

SIZES = {
    "pass": 1, "let": 3, "put": 3, "get": 3, "when": 2, "check": 2, "label": 2,
    "go": 2, "pick": 2, "again": 2, "leave": 1, "once": 2, "else": 1,
}


def scope_of(system):
    """What VALUES and TESTS of the SYSTEM may name."""
    cells, queues, parts = system
    roomy = [queue for queue, room, top in queues if room > 0]
    labels = [(part, label) for part, block in parts for label in labels_in(block)]
    return (
        tuple([row[0] for row in cells]), tuple([row[0] for row in queues]),
        tuple(roomy), tuple(labels),
    )


def is_value_in(scope, thing):
    """Whether thing is a VALUE within the scope."""
    # An own stack, here and for TESTS: what is read from a text may be deep.
    rest = [thing]
    while rest:
        part = rest.pop()
        if is_row(part, 3) and part[0] in ("sum", "gap", "times"):
            rest.extend(part[1:])
        elif not _is_least_value(scope, part):
            return False
    return True


def _is_least_value(scope, thing):
    """Whether thing is a number or a cell within the scope, as a VALUE."""
    if not is_row(thing, 2):
        return False
    if thing[0] == "number":
        return is_number_from(thing[1], 0, 9)
    return thing[0] == "cell" and thing[1] in scope[0]


def is_test_in(scope, thing):
    """Whether thing is a TEST within the scope."""
    rest = [thing]
    while rest:
        part = rest.pop()
        joins = is_row(part, 3) and part[0] in ("and", "or")
        if joins or is_row(part, 2) and part[0] == "not":
            rest.extend(part[1:])
        elif not _is_least_test(scope, part):
            return False
    return True


def _is_least_test(scope, thing):
    """Whether thing is a TEST within the scope in which no others stand."""
    if is_row(thing, 2):
        return thing[0] in ("empty", "full") and thing[1] in scope[2]
    if not is_row(thing, 3):
        return False
    if thing[0] == "stands":
        return (thing[1], thing[2]) in scope[3]
    if thing[0] in ("same", "less"):
        return is_value_in(scope, thing[1]) and is_value_in(scope, thing[2])
    return False


def are_named(thing, size):
    """Whether thing is a tuple of tuples of this size that begin with ascending NAMEs."""
    if type(thing) is not tuple:
        return False
    for row in thing:
        if not is_row(row, size) or not is_name(row[0]):
            return False
    names = [row[0] for row in thing]
    return names == sorted(set(names))


def is_heard_in(scope, thing):
    """Whether thing are HEARD words within the scope."""
    return are_named(thing, 2) and all([is_test_in(scope, test) for word, test in thing])


def is_deed_row(thing):
    """Whether thing has the word and the size of a DEED, whatever its parts are."""
    if type(thing) is not tuple or len(thing) == 0 or type(thing[0]) is not str:
        return False
    return SIZES.get(thing[0]) == len(thing)


def is_placed_block(thing):
    """Whether thing is a block of DEEDS that stand where they may in a part.

    What its VALUES, TESTS and names are is not looked at.
    """
    # Blocks, each with where it stands: whether within another one, within a once, where a
    # leave may stand, where its first DEED may be an else.
    rest = [(thing, False, False, False, False)]
    while rest:
        block, inner, in_once, can_leave, can_else = rest.pop()
        if type(block) is not tuple or inner and len(block) == 0:
            return False
        for at, deed in enumerate(block):
            if not is_deed_row(deed) or not _may_stand(deed, in_once, can_leave):
                return False
            if deed[0] == "else" and not (can_else and at == 0):
                return False
            rest.extend(_inner_blocks(deed, in_once, can_leave))
        if inner and block[0][0] in ("label", "pick", "again"):
            return False
    return True


def _may_stand(deed, in_once, can_leave):
    """Whether a DEED may stand here, whatever stands in it."""
    if deed[0] in ("label", "go"):
        return is_name(deed[1]) and not in_once
    if deed[0] == "leave":
        return can_leave
    if deed[0] == "once":
        return not in_once
    if deed[0] in ("pick", "again"):
        return type(deed[1]) is tuple and len(deed[1]) > 0
    return True


def _inner_blocks(deed, in_once, can_leave):
    """The blocks in a DEED, each with where it stands."""
    if deed[0] == "once":
        return [(deed[1], True, True, False, False)]
    if deed[0] not in ("pick", "again"):
        return []
    leaves, last = can_leave or deed[0] == "again", len(deed[1]) - 1
    return [
        (block, True, in_once, leaves, at == last and last > 0) for at, block in enumerate(deed[1])
    ]


def is_filled(scope, labels, deed):
    """Whether a DEED with these labels in its part names and asks for what is there."""
    if deed[0] == "let":
        return deed[1] in scope[0] and is_value_in(scope, deed[2])
    if deed[0] == "put":
        return deed[1] in scope[1] and is_value_in(scope, deed[2])
    if deed[0] == "get":
        return deed[1] in scope[1] and deed[2] in scope[0]
    if deed[0] in ("when", "check"):
        return is_test_in(scope, deed[1])
    if deed[0] == "go":
        return deed[1] in labels
    return True


def is_filled_block(scope, block):
    """Whether a block of a part names and asks for what is there, each label once."""
    labels = labels_in(block)
    if len(set(labels)) < len(labels):
        return False
    return all([is_filled(scope, labels, deed) for deed in deeds_in(block)])


def is_frame(thing):
    """Whether thing is a SYSTEM, whatever the blocks of its parts are."""
    if not is_row(thing, 3):
        return False
    cells, queues, parts = thing
    if not (are_named(cells, 3) and are_named(queues, 3) and are_named(parts, 2)):
        return False
    names = [row[0] for row in cells + queues + parts]
    if len(parts) == 0 or len(set(names)) < len(names):
        return False
    for _, top, value in cells:
        if not (is_number_from(top, 1, 9) and is_number_from(value, 0, top)):
            return False
    for _, room, top in queues:
        if not (is_number_from(room, 0, 3) and is_number_from(top, 1, 9)):
            return False
    return True


def is_whole(thing):
    """Whether thing is a SYSTEM."""
    if not is_frame(thing):
        return False
    # Labels can be gathered only from blocks that are known to be built of DEEDS.
    for _, block in thing[2]:
        if not is_placed_block(block):
            return False
    scope = scope_of(thing)
    return all([is_filled_block(scope, block) for part, block in thing[2]])
