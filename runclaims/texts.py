"""The language written: texts of VALUES, TESTS, blocks and SYSTEMS."""

from runclaims.plain import frozen
from runclaims.writing import row_written

SIGNS = {"sum": "+", "gap": "-", "times": "*", "same": "==", "less": "<"}


def value_text(value):
    """The text of a VALUE."""
    return " ".join(_row(frozen(value)))


def test_text(test):
    """The text of a TEST."""
    return " ".join(_row(frozen(test)))


def block_text(block):
    """The text of a block."""
    return " ".join(_row(frozen(block)))


def system_text(system):
    """The text of a SYSTEM, each cell, queue and part on a line of its own."""
    cells, queues, parts = frozen(system)
    rows = [["cell", cell, str(top), "=", str(value)] for cell, top, value in cells]
    rows.extend([["queue", queue, str(room), str(top)] for queue, room, top in queues])
    rows.extend([["part", part, "{"] + _row(block) + ["}"] for part, block in parts])
    return "\n".join([" ".join(row) for row in rows])


def _row(given):
    """The pieces of a VALUE, a TEST, a DEED or a block."""
    return row_written(given, _parts_of)


def _parts_of(given):
    """The pieces and the tuples of which the text of a VALUE, a TEST, a DEED or a block is made."""
    if given == () or not isinstance(given[0], str):
        return _with_between(";", given)
    kind = given[0]
    if kind == "number":
        return [str(given[1])]
    if kind == "cell":
        return [given[1]]
    if kind in ("sum", "gap", "times"):
        return ["(", given[1], SIGNS[kind], given[2], ")"]
    if kind in ("same", "less"):
        return [given[1], SIGNS[kind], given[2]]
    if kind == "not":
        return ["[", kind, given[1], "]"]
    if kind in ("and", "or"):
        return ["[", given[1], kind, given[2], "]"]
    if kind == "let":
        return [given[1], "=", given[2]]
    if kind == "once":
        return [kind, "{", given[1], "}"]
    if kind in ("pick", "again"):
        return [kind, "{"] + _with_between("|", given[1]) + ["}"]
    return list(given)


def _with_between(sign, parts):
    """All parts, with this sign between two."""
    found = []
    for part in parts:
        if found:
            found.append(sign)
        found.append(part)
    return found
