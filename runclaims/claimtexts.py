"""CLAIMS read from texts."""

from runclaims.claimforms import ALONE, WITH_TEST, are_kinds, has_heard
from runclaims.errors import BadText
from runclaims.formulas import formula_from
from runclaims.language import test_from
from runclaims.plain import is_name
from runclaims.turntexts import LETTERS


def read_claim(text):
    """The CLAIM that is so written; None if none is."""
    if text in ALONE:
        return (text,)
    word = _first_word(text)
    rest = text[len(word):]
    if word in WITH_TEST:
        test = _read_by(test_from, rest)
        return None if test is None else (word, test)
    if word == "keeps" and rest[:1] == " ":
        return _read_keeps(rest[1:].split(";"))
    return None


def _read_keeps(rows):
    """The CLAIM with these KINDS and this FORMULA, and HEARD words, behind its word."""
    many = len(rows[0]) - len(rows[0].lstrip(LETTERS + ","))
    kinds = tuple(rows[0][:many].split(","))
    formula = _read_by(formula_from, rows[0][many:])
    heard = [_read_heard(row) for row in rows[1:]]
    if formula is None or None in heard or not are_kinds(kinds, len(kinds)):
        return None
    words = [word for word, _ in heard]
    if words != sorted(set(words)) or not has_heard(heard, formula):
        return None
    return ("keeps", tuple(heard), formula, kinds)


def _read_heard(text):
    """The pair of a word and its TEST that is so written behind a ; and None if none is."""
    if text[:1] != " ":
        return None
    word, _, rest = text[1:].partition(" ")
    if not is_name(word) or _first_word(rest) != "is":
        return None
    test = _read_by(test_from, rest[2:])
    return None if test is None else (word, test)


def _first_word(text):
    """The small letters with which a text begins."""
    return text[:len(text) - len(text.lstrip(LETTERS))]


def _read_by(read, text):
    """What is so written; None if nothing is."""
    try:
        return read(text)
    except BadText:
        return None
