"""Whether any value are FALLS."""

from runclaims.fairness import bits_of_turn, is_of_strong, ready_all
from runclaims.graphs import mask_of
from runclaims.pairforms import are_pairs_that_come
from runclaims.plain import is_ascending, is_number, is_number_from, is_row


def are_falls(field, works, pairs, net, bits, thing):
    """Whether thing are FALLS of the PAIRS, whose Net this is, by KINDS told by bits."""
    if not is_row(thing, 2) or not are_pairs_that_come(field, works, pairs, thing[0]):
        return False
    numbers, reasons = thing
    if not all([_is_front(row[2]) for row in numbers]) or not _are_reasons(field.plan, works, reasons):
        return False
    told = {row[:2]: row[2] for row in numbers}
    rows = [told[(field.nodes[here], standing)] for here, standing in pairs.nodes]
    nodes_of = _nodes_of_fronts(rows)
    if sorted(nodes_of) != [front for front, _ in reasons]:
        return False
    given = {front: _by_number(field.plan, reason) for front, reason in reasons}
    if not all([_ends_well(net, given, bits, node, row) for node, row in enumerate(rows)]):
        return False
    steps = [(node, turn, goal) for node, row in enumerate(net.rows) for turn, goal in row]
    if not all([_falls_from(rows[node], rows[goal]) for node, _, goal in steps]):
        return False
    takers = _takers_of_fronts(rows, steps)
    return all([_is_reason(net, nodes_of[front], takers.get(front), given[front], bits) for front in given])


def _is_front(thing):
    """Whether thing is a tuple of one or more numbers from 0."""
    if type(thing) is not tuple or len(thing) == 0:
        return False
    return all([is_number(number) and number >= 0 for number in thing])


def _are_reasons(plan, works, thing):
    """Whether thing has the form of reasons, whatever the fronts are."""
    if type(thing) is not tuple or not all([is_row(row, 2) for row in thing]):
        return False
    if not all([_is_front(front) for front, _ in thing]):
        return False
    if not is_ascending([front for front, _ in thing]):
        return False
    return all([_is_reason_form(plan, works, reason) for _, reason in thing])


def _is_reason_form(plan, works, thing):
    """Whether thing is one of the reasons, of a set of marks or a part that is there."""
    if thing == ("less",):
        return True
    if not is_row(thing, 2):
        return False
    if thing[0] == "mark":
        return is_number_from(thing[1], 0, works.sets - 1)
    return thing[0] == "part" and thing[1] in plan.part_rows


def _by_number(plan, reason):
    """The reason with the number of its part, if it is one of a part."""
    if reason[0] == "part":
        return ("part", plan.part_at[reason[1]])
    return reason


def _fronts(row):
    """The tuples with which a row begins, but for ()."""
    return [row[:many] for many in range(1, len(row) + 1)]


def _nodes_of_fronts(rows):
    """For each front the numbers of the rows that begin with it."""
    found = {}
    for node, row in enumerate(rows):
        for front in _fronts(row):
            found.setdefault(front, []).append(node)
    return found


def _ends_well(net, given, bits, node, row):
    """Whether the row of a node ends just where the reasons of its fronts say."""
    for front in _fronts(row):
        reason = given[front]
        ends = True
        if is_of_strong(reason, bits):
            ends = net.able[node] & (1 << reason[1]) != 0
        if ends != (len(front) == len(row)):
            return False
    return True


def _falls_from(row, behind):
    """Whether rows of a node and of one to which it leads may be these."""
    for number, other in zip(row, behind):
        if number != other:
            return other < number
    return True


def _takers_of_fronts(rows, steps):
    """For each front in which a TURN stays the bits of all who take part in such TURNS."""
    found = {}
    for node, turn, goal in steps:
        for front in _fronts(rows[node]):
            if rows[goal][:len(front)] == front:
                found[front] = found.get(front, 0) | bits_of_turn(turn)
    return found


def _is_reason(net, nodes, takers, reason, bits):
    """Whether a front of these nodes has this reason; takers: None if no TURN stays in it."""
    if reason[0] == "less":
        return takers is None
    if reason[0] == "mark":
        return mask_of(net.masks, nodes) & (1 << reason[1]) == 0
    bit = 1 << reason[1]
    if takers is not None and takers & bit:
        return False
    if bits[0] & bit:
        return ready_all(net, nodes) & bit != 0
    return bits[1] & bit != 0
