"""The language read piece by piece: VALUES, TESTS, blocks, and what is written as a SYSTEM."""

from runclaims.errors import BadText
from runclaims.nests import read_nested
from runclaims.piles import read_joined

DIGITS = "0123456789"
ORDERS = {"==": "same", "<": "less"}
# Brackets, words that turn one, words that join two: see read_joined.
VALUE_SIGNS = ("(", ")", (), (("+", 1, "sum"), ("-", 1, "gap"), ("*", 2, "times")))
TEST_SIGNS = ("[", "]", ("not",), (("or", 1, "or"), ("and", 2, "and")))


def read_value(reader):
    """A VALUE."""
    return read_joined(reader, VALUE_SIGNS, _read_least_value)


def _read_least_value(reader):
    """A digit or a cell."""
    piece = reader.now()
    if len(piece) == 1 and piece in DIGITS:
        return ("number", reader.read_digit(0, 9))
    return ("cell", reader.read_name())


def read_test(reader):
    """A TEST."""
    return read_joined(reader, TEST_SIGNS, _read_least_test)


def _read_least_test(reader):
    """A TEST in which no others stand."""
    piece = reader.now()
    if piece in ("empty", "full"):
        return (reader.step(), reader.read_name())
    if piece == "stands":
        return (reader.step(), reader.read_name(), reader.read_name())
    one = read_value(reader)
    if reader.now() not in ORDERS:
        raise BadText(reader.at)
    word = ORDERS[reader.step()]
    return (word, one, read_value(reader))


def read_deeds(reader):
    """One or more DEEDS."""
    return read_nested(reader, _read_least_deed)


def _read_least_deed(reader):
    """A DEED in which no others stand."""
    piece = reader.now()
    if piece in ("pass", "leave", "else"):
        return (reader.step(),)
    if piece == "put":
        return (reader.step(), reader.read_name(), read_value(reader))
    if piece == "get":
        return (reader.step(), reader.read_name(), reader.read_name())
    if piece in ("when", "check"):
        return (reader.step(), read_test(reader))
    if piece in ("label", "go"):
        return (reader.step(), reader.read_name())
    cell = reader.read_name()
    reader.want("=")
    return ("let", cell, read_value(reader))


def read_frame(reader):
    """What is written as a SYSTEM and nothing behind it, be it one or not."""
    cells = _read_all(reader, "cell", _read_cell)
    queues = _read_all(reader, "queue", _read_queue)
    # There is one part at least, whatever comes.
    first = _read_part(reader)
    parts = (first,) + _read_all(reader, "part", _read_part)
    reader.finish()
    return (cells, queues, parts)


def _read_all(reader, word, read):
    """What read tells, as long as this word comes."""
    found = []
    while reader.now() == word:
        found.append(read(reader))
    return tuple(found)


def _read_cell(reader):
    """A cell, its top and its value."""
    reader.want("cell")
    name = reader.read_name()
    top = reader.read_digit(1, 9)
    reader.want("=")
    return (name, top, reader.read_digit(0, 9))


def _read_queue(reader):
    """A queue, its room and its top."""
    reader.want("queue")
    return (reader.read_name(), reader.read_digit(0, 3), reader.read_digit(1, 9))


def _read_part(reader):
    """A part and its block."""
    reader.want("part")
    name = reader.read_name()
    reader.want("{")
    block = ()
    if reader.now() != "}":
        block = read_deeds(reader)
    reader.want("}")
    return (name, block)
