"""Pieces of texts, written without calling itself: what is written may be of any depth."""


def row_written(given, parts_of):
    """The list of the pieces of a text.

    parts_of tells of something that is written the pieces and the parts of which its text is
    made, one behind another; parts are tuples, pieces strings.
    """
    row, rest = [], [given]
    while rest:
        part = rest.pop()
        if isinstance(part, str):
            row.append(part)
        else:
            rest.extend(parts_of(part)[::-1])
    return row
