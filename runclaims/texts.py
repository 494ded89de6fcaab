"""The language written: texts of VALUES, TESTS, blocks and SYSTEMS."""

from runclaims.plain import frozen

SIGNS = {"sum": "+", "gap": "-", "times": "*", "same": "==", "less": "<"}


def value_text(value):
    """The text of a VALUE."""
    return " ".join(_value_row(frozen(value)))


def test_text(test):
    """The text of a TEST."""
    return " ".join(_test_row(frozen(test)))


def block_text(block):
    """The text of a block."""
    return " ".join(_block_row(frozen(block)))


def system_text(system):
    """The text of a SYSTEM, each cell, queue and part on a line of its own."""
    cells, queues, parts = frozen(system)
    rows = [["cell", cell, str(top), "=", str(value)] for cell, top, value in cells]
    rows.extend([["queue", queue, str(room), str(top)] for queue, room, top in queues])
    rows.extend([["part", part, "{"] + _block_row(block) + ["}"] for part, block in parts])
    return "\n".join([" ".join(row) for row in rows])


def _value_row(value):
    """The pieces of a VALUE."""
    if value[0] == "number":
        return [str(value[1])]
    if value[0] == "cell":
        return [value[1]]
    return ["("] + _value_row(value[1]) + [SIGNS[value[0]]] + _value_row(value[2]) + [")"]


def _test_row(test):
    """The pieces of a TEST."""
    kind = test[0]
    if kind == "not":
        return ["[", "not"] + _test_row(test[1]) + ["]"]
    if kind in ("and", "or"):
        return ["["] + _test_row(test[1]) + [kind] + _test_row(test[2]) + ["]"]
    if kind in ("same", "less"):
        return _value_row(test[1]) + [SIGNS[kind]] + _value_row(test[2])
    return list(test)


def _block_row(block):
    """The pieces of a block."""
    return _with_between(";", [_deed_row(deed) for deed in block])


def _deed_row(deed):
    """The pieces of a DEED."""
    kind = deed[0]
    if kind == "let":
        return [deed[1], "="] + _value_row(deed[2])
    if kind == "put":
        return [kind, deed[1]] + _value_row(deed[2])
    if kind in ("when", "check"):
        return [kind] + _test_row(deed[1])
    if kind == "once":
        return [kind, "{"] + _block_row(deed[1]) + ["}"]
    if kind in ("pick", "again"):
        blocks = _with_between("|", [_block_row(block) for block in deed[1]])
        return [kind, "{"] + blocks + ["}"]
    return list(deed)


def _with_between(sign, rows):
    """The pieces of all rows, with this sign between two."""
    found = []
    for row in rows:
        if found:
            found.append(sign)
        found.extend(row)
    return found
