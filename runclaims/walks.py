"""What stands in VALUES, TESTS, DEEDS and blocks."""


def cells_of_value(value):
    """The cells in a VALUE, as often as they stand there."""
    if value[0] == "number":
        return []
    if value[0] == "cell":
        return [value[1]]
    return cells_of_value(value[1]) + cells_of_value(value[2])


def least_tests(test):
    """The TESTS in a TEST that no others stand in."""
    if test[0] == "not":
        return least_tests(test[1])
    if test[0] in ("and", "or"):
        return least_tests(test[1]) + least_tests(test[2])
    return [test]


def cells_of_test(test):
    """The cells that a TEST asks for."""
    found = []
    for least in least_tests(test):
        if least[0] in ("same", "less"):
            found.extend(cells_of_value(least[1]))
            found.extend(cells_of_value(least[2]))
    return found


def queues_of_test(test):
    """The queues that a TEST asks for."""
    return [least[1] for least in least_tests(test) if least[0] in ("empty", "full")]


def labels_of_test(test):
    """The pairs (part, label) that a TEST asks for."""
    return [(least[1], least[2]) for least in least_tests(test) if least[0] == "stands"]


def blocks_in(deed):
    """The blocks that stand right in a DEED."""
    if deed[0] in ("pick", "again"):
        return deed[1]
    if deed[0] == "once":
        return (deed[1],)
    return ()


def deeds_in(block):
    """All DEEDS of a block, each ahead of those within it."""
    # An own stack, the next DEED last: what is read from a text may be deep.
    found, rest = [], list(block[::-1])
    while rest:
        deed = rest.pop()
        found.append(deed)
        for inner in blocks_in(deed)[::-1]:
            rest.extend(inner[::-1])
    return found


def labels_in(block):
    """The labels that stand in a block, as often as they do."""
    return [deed[1] for deed in deeds_in(block) if deed[0] == "label"]


def asked_cells(deed):
    """The cells that the VALUE or TEST of a DEED asks for."""
    if deed[0] in ("let", "put"):
        return cells_of_value(deed[2])
    if deed[0] in ("when", "check"):
        return cells_of_test(deed[1])
    return []


def let_cells(deed):
    """The cells that a DEED lets or gets into."""
    if deed[0] == "let":
        return [deed[1]]
    if deed[0] == "get":
        return [deed[2]]
    return []


def named_queues(deed):
    """The queues that a DEED puts into, gets from or asks for."""
    if deed[0] in ("put", "get"):
        return [deed[1]]
    if deed[0] in ("when", "check"):
        return queues_of_test(deed[1])
    return []


def asked_pairs(deed):
    """The pairs (part, label) that the TEST of a DEED asks for."""
    if deed[0] in ("when", "check"):
        return labels_of_test(deed[1])
    return []
