"""Requests: what they are by their shape."""

from runclaims.claimtexts import read_claim
from runclaims.edittexts import cut, read_edit
from runclaims.errors import BadText
from runclaims.language import pieces
from runclaims.languageparts import read_frame
from runclaims.plain import is_name
from runclaims.reading import Reader
from runclaims.turntexts import is_word, read_turn

# What stands behind the word of each request.
KINDS = {
    "put": ("name", "system"), "drop": ("name",), "rename": ("name", "name"),
    "edit": ("name", "edit"), "turn": ("name", "turn"), "keep": ("name", "claim"),
    "free": ("name", "claim"), "undo": (), "system": ("name",), "names": (), "deeds": (),
    "run": ("name",), "ready": ("name",), "cell": ("name", "word"), "lying": ("name", "word"),
    "holder": ("name",), "ended": ("name",), "claims": ("name",), "standing": ("name",),
    "lost": ("name",), "sure": ("name",), "spoilt": ("name", "edit"),
    "mended": ("name", "edit"), "report": ("name",),
}


def request_rows(text):
    """Pairs (number, request): the requests of a text, each joined from its lines, with the
    number of the first one."""
    found = []
    for number, line in enumerate(text.split("\n")):
        if found and line[:1] == " ":
            found[-1][1].append(line)
        else:
            found.append((number, [line]))
    return [(number, "".join(lines)) for number, lines in found]


def read_request(text):
    """The tuple of the word of a request and the texts behind it; None if it is none."""
    word, rest = cut(text)
    if word not in KINDS:
        return None
    found = [word]
    for kind in KINDS[word]:
        own, rest = _read_behind(kind, rest)
        if own is None:
            return None
        found.append(own)
    return tuple(found) if rest == "" else None


def _read_behind(kind, text):
    """The text of this kind behind just one blank, and the rest; None for what is none."""
    if text[:1] != " ":
        return None, text
    if kind in ("name", "word"):
        word, rest = cut(text[1:])
        fits = is_name(word) if kind == "name" else is_word(word)
        return (word if fits else None), rest
    return (text[1:] if _is_written(kind, text[1:]) else None), ""


def _is_written(kind, text):
    """Whether an EDIT, a TURN, a CLAIM or a SYSTEM is so written."""
    if kind == "edit":
        return read_edit(text) is not None
    if kind == "turn":
        return read_turn(text) is not None
    if kind == "claim":
        return read_claim(text) is not None
    return _is_system_text(text)


def _is_system_text(text):
    """Whether a SYSTEM is so written, be it one or not."""
    try:
        read_frame(Reader(pieces(text)))
    except BadText:
        return False
    return True
