"""Graphs: nodes are numbers, behind tells for each one the nodes to which it leads.

What is told again and again along a round that never ends is told by bits: masks
has the bits of each node, full has all of them. A component of nodes is full if
ways lead on within it for ever and its nodes have all bits together.
"""


def explored(starts, rows_of):
    """All keys to which ways lead from starts, the nearest ahead, and their rows.

    rows_of tells for a key the pairs (label, key) of where it leads; in what is
    returned the numbers of the keys stand in their place.
    """
    keys, numbers, found = [], {}, []
    for key in starts:
        if key not in numbers:
            numbers[key] = len(keys)
            keys.append(key)
    while len(found) < len(keys):
        row = []
        here = keys[len(found)]
        for label, goal in rows_of(here):
            if goal not in numbers:
                numbers[goal] = len(keys)
                keys.append(goal)
            row.append((label, numbers[goal]))
        found.append(row)
    return keys, found


def goals_of(rows):
    """For each of the rows of labelled goals these goals, ascending."""
    return [sorted(set([goal for label, goal in row])) for row in rows]


def turned_round(behind):
    """For each node those that lead to it."""
    found = [[] for _ in behind]
    for node, row in enumerate(behind):
        for goal in row:
            found[goal].append(node)
    return found


def come_from(behind, starts):
    """The nodes to which ways lead from starts, themselves too, the nearest ahead."""
    met = {node: True for node in starts}
    row = list(met)
    at = 0
    while at < len(row):
        here = row[at]
        for goal in behind[here]:
            if goal not in met:
                met[goal] = True
                row.append(goal)
        at += 1
    return row


def depths_from(behind, starts):
    """For each node to which ways lead from starts how few steps they have."""
    depths = {node: 0 for node in starts}
    row = list(depths)
    at = 0
    while at < len(row):
        here = row[at]
        for goal in behind[here]:
            if goal not in depths:
                depths[goal] = depths[here] + 1
                row.append(goal)
        at += 1
    return depths


def components(behind, nodes):
    """The lots of these nodes between which ways lead there and back, through these
    nodes alone; each one comes behind those to which it leads."""
    # 0: left out or done; -1: not met; else the number in the order in which it was met.
    numbers = [0 for _ in behind]
    for node in nodes:
        numbers[node] = -1
    found = []
    for root in nodes:
        if numbers[root] == -1:
            _gather(behind, numbers, root, found)
    return found


def _gather(behind, numbers, root, found):
    """Add to found the components to which the root leads."""
    numbers[root] = 1
    many = 1
    way, places, least, waiting = [root], [0], [1], [root]
    while way:
        node, place = way[-1], places[-1]
        if place < len(behind[node]):
            goal = behind[node][place]
            places[-1] = place + 1
            if numbers[goal] == -1:
                many += 1
                numbers[goal] = many
                way.append(goal)
                places.append(0)
                least.append(many)
                waiting.append(goal)
            elif 0 < numbers[goal] < least[-1]:
                least[-1] = numbers[goal]
            continue
        way.pop()
        places.pop()
        low = least.pop()
        if low == numbers[node]:
            found.append(_taken_off(waiting, numbers, node))
        elif low < least[-1]:
            least[-1] = low


def _taken_off(waiting, numbers, last):
    """The nodes that wait, down to the last one, taken off and done."""
    row = []
    while numbers[last] != 0:
        node = waiting.pop()
        numbers[node] = 0
        row.append(node)
    return row


def goes_on(behind, component):
    """Whether ways lead on within a component for ever."""
    return len(component) > 1 or component[0] in behind[component[0]]


def mask_of(masks, nodes):
    """The bits that these nodes have together."""
    found = 0
    for node in nodes:
        found |= masks[node]
    return found


def is_full(behind, component, masks, full):
    """Whether a component is full."""
    return goes_on(behind, component) and mask_of(masks, component) == full


def full_components(behind, nodes, masks, full):
    """The components of these nodes that are full."""
    return [row for row in components(behind, nodes) if is_full(behind, row, masks, full)]


def live_nodes(behind, starts, masks, full):
    """The nodes, ascending, on ways from starts that come to full components."""
    live = {}
    for row in components(behind, come_from(behind, starts)):
        leads = any([goal in live for node in row for goal in behind[node]])
        if leads or is_full(behind, row, masks, full):
            for node in row:
                live[node] = True
    return sorted(live)


def way_to(behind, allowed, starts, goals):
    """A shortest way from one of starts to one of goals, through allowed nodes; None if none is."""
    came = {node: None for node in starts if node in allowed}
    row = list(came)
    at = 0
    while at < len(row):
        here = row[at]
        if here in goals:
            return _way_back(came, here)
        for goal in behind[here]:
            if goal in allowed and goal not in came:
                came[goal] = here
                row.append(goal)
        at += 1
    return None


def _way_back(came, node):
    """The way by which a node was come to."""
    way = [node]
    while came[way[-1]] is not None:
        way.append(came[way[-1]])
    return way[::-1]


def circle_in(behind, component, start, masks, full):
    """A way within a full component from start on, the last node leading back to it,
    whose nodes have all bits together."""
    allowed = {node: True for node in component}
    row, met = [start], masks[start]
    while met != full:
        goals = {node: True for node in component if masks[node] & ~met}
        way = way_to(behind, allowed, [row[-1]], goals)
        row.extend(way[1:])
        met |= mask_of(masks, way)
    back = way_to(behind, allowed, behind[row[-1]], {start: True})
    return row + back[:-1]


def lasso(behind, starts, masks, full):
    """A pair: a way from one of starts and a circle behind it with all bits; None if none is."""
    nodes = come_from(behind, starts)
    found = full_components(behind, nodes, masks, full)
    if not found:
        return None
    goals = {node: True for row in found for node in row}
    way = way_to(behind, {node: True for node in nodes}, starts, goals)
    entry = way[-1]
    home = [row for row in found if entry in row][0]
    return way[:-1], circle_in(behind, home, entry, masks, full)


def fewest_in_lasso(behind, starts, masks, full):
    """How many nodes a way and a circle as those of lasso have at the least; None if none is."""
    depths = depths_from(behind, starts)
    left = _homes(behind, list(depths), masks, full)
    limit = sum([len(behind[node]) for node in left])
    best, work = None, 0
    # The first node, by its depth, of the best circle is the one at which to enter it.
    for node in depths:
        if best is not None and depths[node] + 1 >= best:
            break
        if node in left:
            bound = None if best is None else best - depths[node]
            many, met = _fewest_around(behind, left, node, masks, full, bound)
            if many is not None:
                best = depths[node] + many
            del left[node]
            work += met
            # Looking anew for what still goes round is worth it once as much was done in vain.
            if work > limit:
                left = _homes(behind, list(left), masks, full)
                work = 0
    return best


def _homes(behind, nodes, masks, full):
    """For each node of a full component the number of this component."""
    found = {}
    for at, row in enumerate(full_components(behind, nodes, masks, full)):
        for node in row:
            found[node] = at
    return found


def _fewest_around(behind, left, start, masks, full, bound):
    """A pair: how many nodes a circle with all bits has at the least that leads from
    start back to it through nodes left, None if not less than the bound; and how
    much was met."""
    width, own = full + 1, left[start]
    layer = [start * width + masks[start]]
    met = {layer[0]: True}
    many = 0
    while layer and (bound is None or many + 1 < bound):
        many += 1
        ahead = []
        for key in layer:
            here, mask = divmod(key, width)
            for goal in behind[here]:
                if goal == start and mask == full:
                    return many, len(met)
                if left.get(goal) == own:
                    new = goal * width + (mask | masks[goal])
                    if new not in met:
                        met[new] = True
                        ahead.append(new)
        layer = ahead
    return None, len(met)
