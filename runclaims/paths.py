"""Blocks in which something is otherwise at the end of a path; EDITS by their form."""

from runclaims.plain import frozen, is_number

# What the parts of each EDIT behind its word are.
PARTS = {
    "insert": ("name", "path", "deed"), "remove": ("name", "path"),
    "replace": ("name", "path", "deed"), "top": ("name", "number"),
    "value": ("name", "number"), "room": ("name", "number"),
    "cell": ("name", "number", "number"), "queue": ("name", "number", "number"),
    "part": ("name", "block"), "drop": ("name",), "name": ("name", "name"),
    "label": ("name", "name", "name"),
}


def rebuilt(block, path, change):
    """The block in which the one right around the end of a path is what change makes of it
    and of the number there; None if there is none, or if change makes none."""
    if path == ():
        return None
    if len(path) == 1:
        return change(block, path[0])
    at = path[0]
    if not 0 <= at < len(block):
        return None
    deed = block[at]
    if deed[0] == "once":
        inner = rebuilt(deed[1], path[1:], change)
        return None if inner is None else with_item(block, at, ("once", inner))
    if deed[0] not in ("pick", "again") or not 0 <= path[1] < len(deed[1]):
        return None
    inner = rebuilt(deed[1][path[1]], path[2:], change)
    if inner is None:
        return None
    return with_item(block, at, (deed[0], with_item(deed[1], path[1], inner)))


def with_item(row, at, item):
    """The tuple with another item in the place of this one; None if there is none."""
    if not 0 <= at < len(row):
        return None
    return row[:at] + (item,) + row[at + 1:]


def with_more(row, at, item):
    """The tuple with one more item ahead of this one, or behind all; None if that can't be."""
    if not 0 <= at <= len(row):
        return None
    return row[:at] + (item,) + row[at:]


def without_item(row, at):
    """The tuple without this item; None if there is none."""
    if not 0 <= at < len(row):
        return None
    return row[:at] + row[at + 1:]


def is_edit_form(thing):
    """Whether thing is an EDIT by its form, whatever its DEED or its block is."""
    if type(thing) is not tuple or len(thing) == 0 or type(thing[0]) is not str:
        return False
    kinds = PARTS.get(thing[0])
    if kinds is None or len(thing) != len(kinds) + 1 or frozen(thing) != thing:
        return False
    return all([_is_of_kind(kind, own) for kind, own in zip(kinds, thing[1:])])


def _is_of_kind(kind, thing):
    """Whether thing is a part of an EDIT of this kind."""
    if kind == "name":
        return type(thing) is str
    if kind == "number":
        return is_number(thing)
    if kind == "path":
        return type(thing) is tuple and all([is_number(number) for number in thing])
    return True
