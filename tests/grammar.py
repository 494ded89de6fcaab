"""The grammars of the texts, and where a text leaves its grammar, told as plainly as can be.

A grammar is a dict of rules; what is no key of it is a piece, or one of the
words of KINDS, which stand for all pieces of a kind.
"""

import re

KEY_WORDS = set(
    "again always and cell check else empty ever full get go label leave next not once or part"
    " pass pick put queue stands true unless until when".split()
)
KINDS = {
    "NAME": lambda piece: re.fullmatch("[a-z]{1,8}", piece) and piece not in KEY_WORDS,
    "DIGIT": lambda piece: re.fullmatch("[0-9]", piece),
    "TOP": lambda piece: re.fullmatch("[1-9]", piece),
    "ROOM": lambda piece: re.fullmatch("[0-3]", piece),
}


def rules(text):
    found = {}
    for line in text.strip().splitlines():
        head, _, tail = line.strip().partition(" -> ")
        rows = [row.split() for row in tail.split(" / ")]
        found[head] = [[] if row == ["NOTHING"] else row for row in rows]
    return found


VALUE = """
    V -> DIGIT / NAME / V + V / V - V / V * V / ( V )
"""
TEST = VALUE + """
    T -> V == V / V < V / empty NAME / full NAME / stands NAME NAME / not T / T and T / T or T / [ T ]
"""
BLOCK = TEST + """
    D -> pass / leave / else / NAME = V / put NAME V / get NAME NAME / when T / check T / L
    L -> label NAME / go NAME / once { DS } / pick { BS } / again { BS }
    DS -> D / D ; DS
    BS -> DS / DS | BS
    B -> NOTHING / DS
"""
SYSTEM = BLOCK + """
    C -> NOTHING / cell NAME TOP = DIGIT C
    Q -> NOTHING / queue NAME ROOM TOP Q
    P -> part NAME { B } / part NAME { B } P
    S -> C Q P
"""
FORMULA = """
    F -> true / NAME / U G / F until F / F unless F / F and F / F or F / [ F ]
    G -> true / NAME / U G / [ F ]
    U -> not / next / ever / always
"""
GRAMMARS = {
    "value": (rules(VALUE), "V"),
    "test": (rules(TEST), "T"),
    "block": (rules(BLOCK), "B"),
    "system": (rules(SYSTEM), "S"),
    "formula": (rules(FORMULA), "F"),
}


def pieces_of(text):
    return re.findall(r"[a-z]+|[0-9]+|==|[^ \n]", text)


def closed(items, chart, grammar):
    """All items that follow from these without another piece: (head, row, done, begin)."""
    todo, found = list(items), set(items)
    here = len(chart)
    while todo:
        head, row, done, begin = todo.pop()
        if done < len(row):
            fresh = [(row[done], tuple(inner), 0, here) for inner in grammar.get(row[done], ())]
            # What may be built of no pieces is passed at once.
            if [] in grammar.get(row[done], ()):
                fresh.append((head, row, done + 1, begin))
        else:
            there = found if begin == here else chart[begin]
            fresh = [
                (one, other, at + 1, since) for one, other, at, since in there
                if at < len(other) and other[at] == head
            ]
        for item in fresh:
            if item not in found:
                found.add(item)
                todo.append(item)
    return found


def bad_piece(kind, text):
    """The number of the first piece up to which no such text goes; None if the text is one."""
    grammar, start = GRAMMARS[kind]
    chart = []
    items = closed([(start, tuple(row), 0, 0) for row in grammar[start]], chart, grammar)
    pieces = pieces_of(text)
    for number, piece in enumerate(pieces):
        chart.append(items)
        moved = [
            (head, row, done + 1, begin) for head, row, done, begin in items
            if done < len(row) and row[done] not in grammar and takes(row[done], piece)
        ]
        if not moved:
            return number
        items = closed(moved, chart, grammar)
    if any([head == start and done == len(row) and begin == 0 for head, row, done, begin in items]):
        return None
    return len(pieces)


def takes(sign, piece):
    if sign in KINDS:
        return bool(KINDS[sign](piece))
    return sign == piece
