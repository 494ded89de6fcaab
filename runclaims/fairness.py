"""Fair ways to go round in a graph whose steps are TURNS; parts are told by bits.

KINDS are told by a pair of bits: of the parts that are "weak", of those that are
"strong".
"""

from runclaims.graphs import circle_in, components, goals_of, goes_on, mask_of, way_to
from runclaims.plain import least_bit


class Net:
    """Nodes with TURNS that lead on.

    rows: for each node the pairs (turn, node behind it); behind: those nodes alone;
    takers: for each node the pairs (bits of those who take part, node behind it);
    able: for each node the bits of the parts that are ready; masks, full: marks, as
    in graphs.
    """

    def __init__(self, rows, ready, masks, full):
        self.rows = rows
        self.behind = goals_of(rows)
        self.takers = [[(bits_of_turn(turn), goal) for turn, goal in row] for row in rows]
        self.able = ready
        self.masks = masks
        self.full = full


def bits_of_turn(turn):
    """The bits of the parts in a TURN."""
    return sum([1 << part for part in turn[::2]])


def ready_bits(rows):
    """For each of the rows of TURNS the bits of the parts that are ready."""
    found = []
    for row in rows:
        bits = 0
        for turn, _ in row:
            bits |= bits_of_turn(turn)
        found.append(bits)
    return found


def net_of_field(field):
    """The Net of STATES alone, without marks."""
    return Net(field.rows, ready_bits(field.rows), [0 for _ in field.rows], 0)


def net_of_pairs(field, pairs):
    """The Net of PAIRS, with the marks of the MACHINE."""
    ready = ready_bits(field.rows)
    own = [ready[here] for here, _ in pairs.nodes]
    return Net(pairs.rows, own, pairs.masks, pairs.full)


def net_without(field, left):
    """The Net of STATES by the TURNS in which none of those with these bits takes part."""
    rows = [[(turn, goal) for turn, goal in row if not bits_of_turn(turn) & left] for row in field.rows]
    return Net(rows, ready_bits(field.rows), [0 for _ in rows], 0)


def kinds_bits(kinds):
    """KINDS told by bits."""
    weak = sum([1 << at for at, word in enumerate(kinds) if word == "weak"])
    strong = sum([1 << at for at, word in enumerate(kinds) if word == "strong"])
    return weak, strong


def taken_in(net, component):
    """The bits of the parts that take part in TURNS within a component."""
    inside = {node: True for node in component}
    found = 0
    for node in component:
        for bits, goal in net.takers[node]:
            if goal in inside:
                found |= bits
    return found


def ready_all(net, nodes):
    """The bits of the parts that are ready at all of these nodes."""
    found = -1
    for node in nodes:
        found &= net.able[node]
    return found


def reason_against(net, component, bits):
    """Why nobody goes round fairly by all marks through all of a component: ("less",),
    ("mark", number), ("part", number of a part); None if somebody does."""
    if not goes_on(net.behind, component):
        return ("less",)
    lacking = net.full & ~mask_of(net.masks, component)
    if lacking:
        return ("mark", least_bit(lacking))
    waiting = waiting_bits(
        bits, taken_in(net, component), ready_all(net, component), mask_of(net.able, component),
    )
    if waiting:
        return ("part", least_bit(waiting))
    return None


def waiting_bits(bits, taken, always, ever):
    """The bits of the parts to whom a round is not fair, if these take part in it, are
    ready always, are ready ever."""
    weak, strong = bits
    return ((weak & always) | (strong & ever)) & ~taken


def is_of_strong(reason, bits):
    """Whether a reason is that of a "strong" part."""
    return reason[0] == "part" and bits[1] & (1 << reason[1]) != 0


def without_ready(net, nodes, part):
    """Those of the nodes at which a part is not ready."""
    return [node for node in nodes if not net.able[node] & (1 << part)]


def fair_component(net, rows, bits):
    """A lot of nodes within one of these components through all of which somebody goes
    round fairly by all marks; None if there is none."""
    todo = list(rows)
    while todo:
        row = todo.pop()
        reason = reason_against(net, row, bits)
        if reason is None:
            return row
        if is_of_strong(reason, bits):
            todo.extend(components(net.behind, without_ready(net, row, reason[1])))
    return None


def all_components(net):
    """The components of all nodes."""
    return components(net.behind, list(range(len(net.rows))))


def fall_rows(net, bits):
    """A pair: the row of each node, and the reason of each front, of FALLS; None if
    there are none. Parts are told by their numbers."""
    rows, reasons = [() for _ in net.rows], {}
    todo = [((), list(range(len(net.rows))))]
    while todo:
        front, nodes = todo.pop()
        # Components come behind those to which they lead: their numbers fall along TURNS.
        for at, row in enumerate(components(net.behind, nodes)):
            own = (*front, at)
            reason = reason_against(net, row, bits)
            if reason is None:
                return None
            reasons[own] = reason
            for node in row:
                rows[node] = own
            if is_of_strong(reason, bits):
                todo.append((own, without_ready(net, row, reason[1])))
    return rows, reasons


def fair_round(net, component, start, bits):
    """TURNS round through such a component from start back to it, fair and by all marks."""
    steps = _steps_along(net, circle_in(net.behind, component, start, net.masks, net.full) + [start])
    allowed = {node: True for node in component}
    taken = taken_in(net, component)
    for part in range((bits[0] | bits[1]).bit_length()):
        bit = 1 << part
        if (bits[0] | bits[1]) & taken & bit:
            steps.extend(_steps_with(net, allowed, start, bit))
        elif bits[0] & bit:
            # Nobody is weakly fair to who is not ready at some node.
            goals = {node: True for node in component if not net.able[node] & bit}
            steps.extend(_steps_there_and_back(net, allowed, start, goals))
    return tuple(steps)


def _steps_along(net, nodes):
    """TURNS from each of the nodes to the next one."""
    found = []
    for at in range(len(nodes) - 1):
        goal = nodes[at + 1]
        found.append([turn for turn, there in net.rows[nodes[at]] if there == goal][0])
    return found


def _steps_there_and_back(net, allowed, start, goals):
    """TURNS from start to one of goals and back."""
    there = way_to(net.behind, allowed, [start], goals)
    back = way_to(net.behind, allowed, there[-1:], {start: True})
    return _steps_along(net, there) + _steps_along(net, back)


def _steps_with(net, allowed, start, bit):
    """TURNS from start back to it, in one of which the part of this bit takes part."""
    goals = {
        node: True for node in allowed
        if any([bits & bit and goal in allowed for bits, goal in net.takers[node]])
    }
    there = way_to(net.behind, allowed, [start], goals)
    turn, behind = [
        (turn, goal) for turn, goal in net.rows[there[-1]]
        if bits_of_turn(turn) & bit and goal in allowed
    ][0]
    back = way_to(net.behind, allowed, [behind], {start: True})
    return _steps_along(net, there) + [turn] + _steps_along(net, back)
