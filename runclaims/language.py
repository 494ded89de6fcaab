"""The language read: texts of VALUES, TESTS, blocks and SYSTEMS."""

from runclaims.errors import BadText, Unfit
from runclaims.reading import Reader
from runclaims.shapes import is_whole

LETTERS = "abcdefghijklmnopqrstuvwxyz"
DIGITS = "0123456789"
SUMS = {"+": "sum", "-": "gap"}
ORDERS = {"==": "same", "<": "less"}


def pieces(text):
    """The tuple of the pieces of a text."""
    found = []
    at = 0
    while at < len(text):
        end = _piece_end(text, at)
        if text[at] not in (" ", "\n"):
            found.append(text[at:end])
        at = end
    return tuple(found)


def value_from(text):
    """The VALUE that is so written."""
    reader = Reader(pieces(text))
    value = _read_value(reader)
    reader.finish()
    return value


def test_from(text):
    """The TEST that is so written."""
    reader = Reader(pieces(text))
    test = _read_test(reader)
    reader.finish()
    return test


def block_from(text):
    """The block that is so written, wherever its DEEDS may stand."""
    reader = Reader(pieces(text))
    block = ()
    if reader.now() != "":
        block = _read_deeds(reader)
    reader.finish()
    return block


def system_from(text):
    """The SYSTEM that is so written."""
    reader = Reader(pieces(text))
    cells = _read_all(reader, "cell", _read_cell)
    queues = _read_all(reader, "queue", _read_queue)
    # There is one part at least, whatever comes.
    first = _read_part(reader)
    parts = (first,) + _read_all(reader, "part", _read_part)
    reader.finish()
    system = (cells, queues, parts)
    if not is_whole(system):
        raise Unfit()
    return system


def _piece_end(text, at):
    """Where the piece, or the blank, that begins here ends."""
    if text[at:at + 2] == "==":
        return at + 2
    end = at + 1
    for kind in (LETTERS, DIGITS):
        if text[at] in kind:
            while end < len(text) and text[end] in kind:
                end += 1
    return end


def _read_value(reader):
    """A VALUE: sums and gaps of products."""
    value = _read_product(reader)
    while reader.now() in SUMS:
        word = SUMS[reader.step()]
        value = (word, value, _read_product(reader))
    return value


def _read_product(reader):
    """A VALUE without + and - but within brackets."""
    value = _read_factor(reader)
    while reader.now() == "*":
        reader.step()
        value = ("times", value, _read_factor(reader))
    return value


def _read_factor(reader):
    """A digit, a cell, or a VALUE between brackets."""
    piece = reader.now()
    if piece == "(":
        reader.step()
        value = _read_value(reader)
        reader.want(")")
        return value
    if len(piece) == 1 and piece in DIGITS:
        return ("number", reader.read_digit(0, 9))
    return ("cell", reader.read_name())


def _read_test(reader):
    """A TEST: one or more of what and joins, with or between."""
    test = _read_joined(reader)
    while reader.now() == "or":
        reader.step()
        test = ("or", test, _read_joined(reader))
    return test


def _read_joined(reader):
    """A TEST without or but within brackets."""
    test = _read_least(reader)
    while reader.now() == "and":
        reader.step()
        test = ("and", test, _read_least(reader))
    return test


def _read_least(reader):
    """A TEST without and and or but within brackets."""
    piece = reader.now()
    if piece == "not":
        reader.step()
        return ("not", _read_least(reader))
    if piece == "[":
        reader.step()
        test = _read_test(reader)
        reader.want("]")
        return test
    if piece in ("empty", "full"):
        return (reader.step(), reader.read_name())
    if piece == "stands":
        return (reader.step(), reader.read_name(), reader.read_name())
    one = _read_value(reader)
    if reader.now() not in ORDERS:
        raise BadText(reader.at)
    word = ORDERS[reader.step()]
    return (word, one, _read_value(reader))


def _read_deeds(reader):
    """One or more DEEDS."""
    deeds = [_read_deed(reader)]
    while reader.now() == ";":
        reader.step()
        deeds.append(_read_deed(reader))
    return tuple(deeds)


def _read_deed(reader):
    """A DEED."""
    piece = reader.now()
    if piece in ("pass", "leave", "else"):
        return (reader.step(),)
    if piece == "put":
        return (reader.step(), reader.read_name(), _read_value(reader))
    if piece == "get":
        return (reader.step(), reader.read_name(), reader.read_name())
    if piece in ("when", "check"):
        return (reader.step(), _read_test(reader))
    if piece in ("label", "go"):
        return (reader.step(), reader.read_name())
    if piece in ("once", "pick", "again"):
        return _read_nest(reader)
    cell = reader.read_name()
    reader.want("=")
    return ("let", cell, _read_value(reader))


def _read_nest(reader):
    """A DEED in which others stand."""
    word = reader.step()
    reader.want("{")
    blocks = [_read_deeds(reader)]
    while word != "once" and reader.now() == "|":
        reader.step()
        blocks.append(_read_deeds(reader))
    reader.want("}")
    if word == "once":
        return (word, blocks[0])
    return (word, tuple(blocks))


def _read_all(reader, word, read):
    """What read tells, as long as this word comes."""
    found = []
    while reader.now() == word:
        found.append(read(reader))
    return tuple(found)


def _read_cell(reader):
    """A cell, its top and its value."""
    reader.want("cell")
    name = reader.read_name()
    top = reader.read_digit(1, 9)
    reader.want("=")
    return (name, top, reader.read_digit(0, 9))


def _read_queue(reader):
    """A queue, its room and its top."""
    reader.want("queue")
    return (reader.read_name(), reader.read_digit(0, 3), reader.read_digit(1, 9))


def _read_part(reader):
    """A part and its block."""
    reader.want("part")
    name = reader.read_name()
    reader.want("{")
    block = ()
    if reader.now() != "}":
        block = _read_deeds(reader)
    reader.want("}")
    return (name, block)
