"""SYSTEMS in which something is called otherwise.

A change is a dict that leads from (kind, name), or ("label", part, label), to
the new name; kinds are "cell", "queue" and "part".
"""


def changed_name(change, kind, name):
    """What a cell, a queue or a part is called then."""
    return change.get((kind, name), name)


def changed_label(change, part, label):
    """What a label of this part is called then."""
    return change.get(("label", part, label), label)


def changed_value(change, value):
    """A VALUE with the new names."""
    if value[0] == "number":
        return value
    if value[0] == "cell":
        return ("cell", changed_name(change, "cell", value[1]))
    return (value[0], changed_value(change, value[1]), changed_value(change, value[2]))


def changed_test(change, test):
    """A TEST with the new names."""
    kind = test[0]
    if kind == "not":
        return (kind, changed_test(change, test[1]))
    if kind in ("and", "or"):
        return (kind, changed_test(change, test[1]), changed_test(change, test[2]))
    if kind in ("same", "less"):
        return (kind, changed_value(change, test[1]), changed_value(change, test[2]))
    if kind == "stands":
        label = changed_label(change, test[1], test[2])
        return (kind, changed_name(change, "part", test[1]), label)
    return (kind, changed_name(change, "queue", test[1]))


def changed_deed(change, part, deed):
    """A DEED of this part with the new names."""
    kind = deed[0]
    if kind == "let":
        return (kind, changed_name(change, "cell", deed[1]), changed_value(change, deed[2]))
    if kind == "put":
        return (kind, changed_name(change, "queue", deed[1]), changed_value(change, deed[2]))
    if kind == "get":
        cell = changed_name(change, "cell", deed[2])
        return (kind, changed_name(change, "queue", deed[1]), cell)
    if kind in ("when", "check"):
        return (kind, changed_test(change, deed[1]))
    if kind in ("label", "go"):
        return (kind, changed_label(change, part, deed[1]))
    if kind in ("pick", "again"):
        return (kind, tuple([changed_block(change, part, block) for block in deed[1]]))
    if kind == "once":
        return (kind, changed_block(change, part, deed[1]))
    return deed


def changed_block(change, part, block):
    """A block of this part with the new names."""
    return tuple([changed_deed(change, part, deed) for deed in block])


def by_name(rows):
    """The rows, which have unlike names, ascending."""
    return tuple(sorted(rows, key=lambda row: row[0]))


def changed_system(change, system):
    """A SYSTEM with the new names, its tuples ascending anew."""
    cells, queues, parts = system
    new_cells = [
        (changed_name(change, "cell", cell), top, value) for cell, top, value in cells
    ]
    new_queues = [
        (changed_name(change, "queue", queue), room, top) for queue, room, top in queues
    ]
    new_parts = [
        (changed_name(change, "part", part), changed_block(change, part, block))
        for part, block in parts
    ]
    return (by_name(new_cells), by_name(new_queues), by_name(new_parts))
