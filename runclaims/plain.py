"""What all other files need: numbers, NAMEs, sets, copies made of tuples alone."""

KEY_WORDS = (
    "again", "always", "and", "cell", "check", "else", "empty", "ever", "full",
    "get", "go", "label", "leave", "next", "not", "once", "or", "part", "pass",
    "pick", "put", "queue", "stands", "true", "unless", "until", "when",
)


def frozen(given):
    """The same with a tuple in the place of each list, at any depth."""
    if not isinstance(given, (list, tuple)):
        return given
    # An own stack: what is returned may be handed in again, however deep it is.
    stack = [(given, [])]
    while True:
        source, built = stack[-1]
        if len(built) < len(source):
            item = source[len(built)]
            if isinstance(item, (list, tuple)):
                stack.append((item, []))
            else:
                built.append(item)
        else:
            stack.pop()
            if not stack:
                return tuple(built)
            stack[-1][1].append(tuple(built))


def is_number(thing):
    """Whether thing is an integer; True and False are none."""
    return type(thing) is int


def is_number_from(thing, low, high):
    """Whether thing is a number from low to high."""
    return is_number(thing) and low <= thing <= high


def is_name(thing):
    """Whether thing is a NAME."""
    if type(thing) is not str or not 1 <= len(thing) <= 8 or thing in KEY_WORDS:
        return False
    return all(["a" <= sign <= "z" for sign in thing])


def is_name_set(thing):
    """Whether thing is a set of NAMEs: an ascending tuple of them."""
    if type(thing) is not tuple or not all([is_name(name) for name in thing]):
        return False
    return list(thing) == sorted(set(thing))


def is_row(thing, size):
    """Whether thing is a tuple of this size."""
    return type(thing) is tuple and len(thing) == size


def as_set(rows):
    """The ascending tuple of what is in rows."""
    return tuple(sorted(set(rows)))


def is_ascending(row):
    """Whether each one in row is greater than the one ahead of it."""
    return all([row[at] < row[at + 1] for at in range(len(row) - 1)])


def numbered(keys):
    """For each key the number of the first one that is like it, among unlike ones."""
    numbers = {}
    for key in keys:
        if key not in numbers:
            numbers[key] = len(numbers)
    return [numbers[key] for key in keys]


def least_bit(bits):
    """The place of the least of these bits."""
    return (bits & -bits).bit_length() - 1


def bits_set(bits):
    """The places of these bits, ascending."""
    found = []
    while bits:
        found.append(least_bit(bits))
        bits &= bits - 1
    return found
