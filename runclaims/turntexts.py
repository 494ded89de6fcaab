"""TURNS, words and numbers as they are written in reports and requests."""

from runclaims.digits import number_in, number_text

LETTERS = "abcdefghijklmnopqrstuvwxyz"
DIGITS = "0123456789"


def is_word(text):
    """Whether a text is a word of small letters."""
    return text != "" and all([sign in LETTERS for sign in text])


def is_number_text(text):
    """Whether a text is a number without a needless 0."""
    if text == "" or not all([sign in DIGITS for sign in text]):
        return False
    return text == "0" or text[0] != "0"


def written_turn(names, turn):
    """The text of a TURN of parts with these names."""
    if turn == ():
        return "idle"
    rows = [f"{names[turn[at]]} {number_text(turn[at + 1])}" for at in range(0, len(turn), 2)]
    return " to ".join(rows)


def read_turn(text):
    """The tuple of the names and the numbers of STEPS of the TURN that is so written; None if
    nothing is."""
    if text == "idle":
        return ()
    words = text.split(" ")
    if len(words) == 5 and words[2] == "to":
        words = words[:2] + words[3:]
    elif len(words) != 2:
        return None
    found = []
    for at in range(0, len(words), 2):
        if not (is_word(words[at]) and is_number_text(words[at + 1])):
            return None
        found.extend([words[at], number_in(words[at + 1])])
    return tuple(found)
