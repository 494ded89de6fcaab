"""What a text means, told as plainly as can be: split at the word that joins last.

Each function takes the list of the pieces of a text that is one.
"""

VALUE_WORDS = (("+", "-"), ("*",))
TEST_WORDS = (("or",), ("and",))
FORMULA_WORDS = (("or",), ("and",), ("until", "unless"))
NAMES = {"+": "sum", "-": "gap", "*": "times", "==": "same", "<": "less"}


def value_in(row):
    found = split_at(row, VALUE_WORDS, value_in)
    if found is not None:
        return found
    if row[0] == "(":
        return value_in(row[1:-1])
    return ("number", int(row[0])) if row[0].isdigit() else ("cell", row[0])


def test_in(row):
    found = split_at(row, TEST_WORDS, test_in)
    if found is not None:
        return found
    if row[0] == "not":
        return ("not", test_in(row[1:]))
    if row[0] == "[":
        return test_in(row[1:-1])
    if row[0] in ("empty", "full", "stands"):
        return tuple(row)
    at = row.index("==") if "==" in row else row.index("<")
    return (NAMES[row[at]], value_in(row[:at]), value_in(row[at + 1:]))


def formula_in(row):
    found = split_at(row, FORMULA_WORDS, formula_in)
    if found is not None:
        return found
    if row[0] in ("not", "next", "ever", "always"):
        return (row[0], formula_in(row[1:]))
    if row[0] == "[":
        return formula_in(row[1:-1])
    return ("true",) if row == ["true"] else ("word", row[0])


def split_at(row, levels, read):
    """What is joined by the last word outside brackets of the first level that has one."""
    depths, depth = [], 0
    for piece in row:
        depth += (piece in ("(", "[")) - (piece in (")", "]"))
        depths.append(depth)
    for words in levels:
        places = [at for at, piece in enumerate(row) if piece in words and depths[at] == 0]
        if places:
            at = places[-1]
            return (NAMES.get(row[at], row[at]), read(row[:at]), read(row[at + 1:]))
    return None


def block_in(row):
    """The block that is written by these pieces."""
    if not row:
        return ()
    return tuple([deed_in(deed) for deed in parted(row, ";")])


def deed_in(row):
    if row[0] == "once":
        return ("once", block_in(row[2:-1]))
    if row[0] in ("pick", "again"):
        return (row[0], tuple([block_in(block) for block in parted(row[2:-1], "|")]))
    if row[0] in ("when", "check"):
        return (row[0], test_in(row[1:]))
    if row[0] == "put":
        return ("put", row[1], value_in(row[2:]))
    return ("let", row[0], value_in(row[2:])) if "=" in row else tuple(row)


def parted(row, sign):
    """The rows of pieces between the signs outside of { and }."""
    found, depth = [[]], 0
    for piece in row:
        depth += (piece == "{") - (piece == "}")
        if piece == sign and depth == 0:
            found.append([])
        else:
            found[-1].append(piece)
    return found
