"""Numbers written and read, of any length: str and int alone take only some thousand digits."""

# So many digits are taken at once; below, 10 ** 64 goes with it.
MANY = 64


def number_in(text):
    """The number that is written by these digits."""
    rows = [int(text[max(0, end - MANY):end]) for end in range(len(text), 0, -MANY)]
    base = 10 ** 64
    # Neighbours are joined, so that great numbers are multiplied seldom.
    while len(rows) > 1:
        if len(rows) & 1:
            rows.append(0)
        rows = [rows[at] + rows[at + 1] * base for at in range(0, len(rows), 2)]
        base = base * base
    return rows[0]


def number_text(number):
    """The digits of a number, behind - if it is below 0."""
    rest, base = abs(number), 10 ** 64
    rows = []
    while rest >= base:
        rest, low = divmod(rest, base)
        rows.append(str(low).zfill(MANY))
    rows.append(str(rest))
    sign = "-" if number < 0 else ""
    return sign + "".join(rows[::-1])
