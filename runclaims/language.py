"""The language read: texts of VALUES, TESTS, blocks and SYSTEMS."""

from runclaims.errors import Unfit
from runclaims.languageparts import read_deeds, read_frame, read_test, read_value
from runclaims.reading import Reader
from runclaims.shapes import is_whole

LETTERS = "abcdefghijklmnopqrstuvwxyz"
DIGITS = "0123456789"


def pieces(text):
    """The tuple of the pieces of a text."""
    found = []
    at = 0
    while at < len(text):
        end = _piece_end(text, at)
        if text[at] not in (" ", "\n"):
            found.append(text[at:end])
        at = end
    return tuple(found)


def value_from(text):
    """The VALUE that is so written."""
    reader = Reader(pieces(text))
    value = read_value(reader)
    reader.finish()
    return value


def test_from(text):
    """The TEST that is so written."""
    reader = Reader(pieces(text))
    test = read_test(reader)
    reader.finish()
    return test


def block_from(text):
    """The block that is so written, wherever its DEEDS may stand."""
    reader = Reader(pieces(text))
    block = ()
    if reader.now() != "":
        block = read_deeds(reader)
    reader.finish()
    return block


def system_from(text):
    """The SYSTEM that is so written."""
    system = read_frame(Reader(pieces(text)))
    if not is_whole(system):
        raise Unfit()
    return system


def _piece_end(text, at):
    """Where the piece, or the blank, that begins here ends."""
    if text[at:at + 2] == "==":
        return at + 2
    end = at + 1
    for kind in (LETTERS, DIGITS):
        if text[at] in kind:
            while end < len(text) and text[end] in kind:
                end += 1
    return end
