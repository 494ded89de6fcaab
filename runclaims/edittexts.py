"""EDITS as they are written in requests."""

from runclaims.digits import number_in, number_text
from runclaims.errors import BadText
from runclaims.language import block_from
from runclaims.paths import PARTS
from runclaims.texts import block_text
from runclaims.turntexts import is_number_text, is_word


def written_edit(edit):
    """The text of an EDIT of tuples."""
    words = [edit[0]]
    for kind, own in zip(PARTS[edit[0]], edit[1:]):
        if kind == "path":
            words.append(".".join([number_text(number) for number in own]) or "-")
        elif kind == "deed":
            words.append(block_text((own,)))
        elif kind == "block":
            words.extend(["{", block_text(own), "}"] if own else ["{", "}"])
        else:
            words.append(number_text(own) if kind == "number" else own)
    return " ".join(words)


def read_edit(text):
    """The EDIT that is so written; None if nothing is."""
    word, rest = cut(text)
    if word not in PARTS:
        return None
    found = [word]
    for kind in PARTS[word]:
        if kind == "deed":
            own, rest = _read_deed(rest), ""
        elif kind == "block":
            own, rest = _read_block(rest), ""
        else:
            own, rest = _read_part(kind, rest)
        if own is None:
            return None
        found.append(own)
    return tuple(found) if rest == "" else None


def cut(text):
    """A text up to the first blank, and the rest from there on."""
    word = text.partition(" ")[0]
    return word, text[len(word):]


def _read_part(kind, text):
    """A name, a number or a path behind just one blank, and the rest; None for what is none."""
    if text[:1] != " ":
        return None, text
    word, rest = cut(text[1:])
    if kind == "name":
        return (word if is_word(word) else None), rest
    if kind == "number":
        return (number_in(word) if is_number_text(word) else None), rest
    return _read_path(word), rest


def _read_path(word):
    """The path that is so written; None if nothing is."""
    if word == "-":
        return ()
    numbers = word.split(".")
    if not all([is_number_text(number) for number in numbers]):
        return None
    return tuple([number_in(number) for number in numbers])


def _read_deed(text):
    """The DEED that is so written behind a blank; None if none is."""
    block = _read_deeds(text)
    return block[0] if block is not None and len(block) == 1 else None


def _read_block(text):
    """The block that is so written in brackets behind just one blank; None if none is."""
    if text[:2] != " {" or text[-1:] != "}" or len(text) < 3:
        return None
    return _read_deeds(text[2:-1])


def _read_deeds(text):
    """The block that is so written; None if none is."""
    try:
        return block_from(text)
    except BadText:
        return None
