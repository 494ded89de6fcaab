"""FORMULAS taken to pieces, each of which stands once, and put together again.

A formula that was made from others may be far greater than what it is made of,
so all is worked out once for each piece: a row is ("true",), ("word", word), or
the word of a FORMULA and the numbers of the rows of what stands right in it.
Rows come behind those that they name; the last one is the FORMULA itself.
"""

TRUE = ("true",)
FALSE = ("not", ("true",))
ONE = ("not", "next", "ever", "always")
TWO = ("and", "or", "until", "unless")
TURNED = {
    "and": "or", "or": "and", "ever": "always", "always": "ever",
    "until": "unless", "unless": "until",
}


def formula_rows(formula):
    """The rows of a FORMULA of tuples."""
    rows = []
    add_rows(rows, {}, formula)
    return rows


def add_rows(rows, numbers, formula):
    """Add to rows, whose numbers these are, those of a FORMULA of tuples that are not
    there yet; tells the number of the FORMULA itself."""
    # An own stack: what was made from FORMULAS may be deep.
    stack = [(formula, [])]
    while True:
        piece, built = stack[-1]
        within = within_piece(piece)
        if len(built) < len(within):
            stack.append((within[len(built)], []))
            continue
        stack.pop()
        row = (piece[0], *built) if within else piece
        if row not in numbers:
            numbers[row] = len(rows)
            rows.append(row)
        if not stack:
            return numbers[row]
        stack[-1][1].append(numbers[row])


def within_piece(piece):
    """The FORMULAS that stand right in a FORMULA."""
    if piece[0] in ("true", "word"):
        return ()
    return piece[1:]


def formulas_of(rows):
    """The FORMULA of each row."""
    found = []
    for row in rows:
        found.append(put_together(row, found))
    return found


def put_together(row, made):
    """The FORMULA of a row, made from what was made for the rows that it names."""
    if row[0] in ("true", "word"):
        return row
    return (row[0],) + tuple([made[number] for number in row[1:]])


def opposites_of(rows):
    """For each row the pair of its FORMULA turned inward and of the OPPOSITE of it."""
    found = []
    for row in rows:
        found.append(_both_ways(row, found))
    return found


def _both_ways(row, found):
    """The FORMULA of a row turned inward, and its OPPOSITE."""
    kind = row[0]
    if kind in ("true", "word"):
        return (row, ("not", row))
    one, against = found[row[1]]
    if kind == "not":
        return (against, one)
    if kind == "next":
        return (("next", one), ("next", against))
    turned = TURNED[kind]
    if kind in ("ever", "always"):
        return ((kind, one), (turned, against))
    other, against_other = found[row[2]]
    if kind in ("and", "or"):
        return ((kind, one, other), (turned, against, against_other))
    neither = ("and", against, against_other)
    return ((kind, one, other), (turned, against_other, neither))


def cores_of(rows):
    """For each row its FORMULA made of true, words, not, and, next, until alone."""
    found = []
    for row in rows:
        found.append(_core(row, found))
    return found


def _core(row, found):
    """The FORMULA of a row made so."""
    kind = row[0]
    if kind in ("true", "word", "not", "next", "and", "until"):
        return put_together(row, found)
    one = found[row[1]]
    if kind == "ever":
        return ("until", TRUE, one)
    if kind == "always":
        return ("not", ("until", TRUE, ("not", one)))
    other = found[row[2]]
    neither = ("and", ("not", one), ("not", other))
    if kind == "or":
        return ("not", neither)
    return ("not", ("until", ("not", other), neither))


def left_of(rows, told):
    """For each row what is left of its FORMULA behind this set."""
    whole = formulas_of(rows)
    found = []
    for at, row in enumerate(rows):
        found.append(_left(row, whole[at], whole, told, found))
    return found


def _left(row, itself, whole, told, found):
    """What is left of the FORMULA of a row behind this set."""
    kind = row[0]
    if kind == "true":
        return TRUE
    if kind == "word":
        return TRUE if row[1] in told else FALSE
    if kind == "next":
        return whole[row[1]]
    one = found[row[1]]
    if kind == "not":
        return TRUE if one == FALSE else ("not", one)
    if kind == "ever":
        return either(one, itself)
    if kind == "always":
        return both(one, itself)
    other = found[row[2]]
    if kind == "and":
        return both(one, other)
    if kind == "or":
        return either(one, other)
    return either(other, both(one, itself))


def either(one, other):
    """One or other, without what decides nothing."""
    if TRUE in (one, other):
        return TRUE
    if one == FALSE:
        return other
    if other == FALSE:
        return one
    return ("or", one, other)


def both(one, other):
    """One and other, without what decides nothing."""
    if FALSE in (one, other):
        return FALSE
    if one == TRUE:
        return other
    if other == TRUE:
        return one
    return ("and", one, other)


def truths_of(rows, sets, back):
    """For each row the list of whether it is true at each place of a LOOP.

    sets: what is told at the places; back: the place behind the last one.
    """
    found = []
    for row in rows:
        found.append(_truths(row, sets, back, found))
    return found


def _truths(row, sets, back, found):
    """Whether the FORMULA of a row is true at each place."""
    kind = row[0]
    if kind == "true":
        return [True for _ in sets]
    if kind == "word":
        return [row[1] in told for told in sets]
    one = found[row[1]]
    if kind == "not":
        return [not there for there in one]
    if kind == "next":
        return one[1:] + [one[back]]
    if kind == "ever":
        return _lasting([True for _ in sets], one, back, False)
    if kind == "always":
        return _lasting(one, [False for _ in sets], back, True)
    other = found[row[2]]
    if kind == "and":
        return [here and there for here, there in zip(one, other)]
    if kind == "or":
        return [here or there for here, there in zip(one, other)]
    return _lasting(one, other, back, kind == "unless")


def _lasting(one, other, back, for_ever):
    """Where other is, or one is and so on behind; for_ever: also if other never comes."""
    found = [for_ever for _ in one]
    # Going back twice is enough: no way passes the end of the round more than once.
    for _ in range(2):
        behind = found[back]
        for at in reversed(range(len(one))):
            behind = other[at] or (one[at] and behind)
            found[at] = behind
    return found


def literal_between(one, other):
    """A word, or not a word, that is true where one is told and not where other is."""
    for word in one:
        if word not in other:
            return ("word", word)
    return [("not", ("word", word)) for word in other if word not in one][0]


def just(told, words):
    """A FORMULA that is true just where of these words those are told that are in told."""
    return all_of([("word", word) if word in told else ("not", ("word", word)) for word in words])


def all_of(formulas):
    """One or more FORMULAS joined by and."""
    row = list(formulas)
    # Joined two by two: so it does not get deep, however many there are.
    while len(row) > 1:
        joined = [("and", row[at], row[at + 1]) for at in range(0, len(row) - 1, 2)]
        row = joined + (row[-1:] if len(row) - 2 * len(joined) else [])
    return row[0]
