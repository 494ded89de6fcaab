"""Which nodes of graphs nobody can tell apart, and how far one must look to tell them apart.

A graph is told as in graphs; sets has what is told at each node.
"""

from runclaims.graphs import turned_round
from runclaims.plain import bits_set, numbered
from runclaims.stepformulas import bits_leading, goal_masks


def lots_by_depth(sets, behind):
    """For each depth, from 0, the numbers of the lots of nodes that no STEP FORMULA of this
    depth tells apart; the last ones are told apart by none."""
    lots = numbered(sets)
    found = [lots]
    while True:
        finer = numbered([
            (lot, tuple(sorted(set([lots[goal] for goal in row])))) for lot, row in zip(lots, behind)
        ])
        if max(finer) == max(lots):
            return found
        found.append(finer)
        lots = finer


def depth_apart(found, one, other):
    """The least depth at which two nodes are in lots apart; how many depths there are, if
    they never are."""
    low, high = 0, len(found)
    while low < high:
        middle = (low + high) // 2
        if found[middle][one] == found[middle][other]:
            low = middle + 1
        else:
            high = middle
    return low


class Follow:
    """The nodes that follow those of the first part of a graph.

    many: how many nodes the first part has; left: for each node of it the bits of the
    nodes of the second part that follow it; gone: for each other pair of such nodes, told
    by the number one * width + other, how deep a plain STEP FORMULA must be that is true
    at the first and not at the second one.
    """

    def __init__(self, sets, behind, many):
        self.many = many
        self.width = len(sets)
        self.left = [0 for _ in range(many)]
        self.gone = {}
        unlike = []
        for one in range(many):
            for other in range(many, self.width):
                if sets[one] == sets[other]:
                    self.left[one] |= 1 << other
                else:
                    unlike.append((one, other))
        self.narrow(behind, unlike)

    def narrow(self, behind, unlike):
        """Take away, round by round, those who can't follow any more."""
        masks, ahead = goal_masks(behind), turned_round(behind)
        number = 0
        while unlike:
            for one, other in unlike:
                self.gone[one * self.width + other] = number
            found = {}
            for one, other in unlike:
                for before in ahead[other]:
                    if masks[before] & self.left[one] == 0:
                        for start in ahead[one]:
                            if self.left[start] & (1 << before):
                                found[(start, before)] = True
            unlike = list(found)
            for one, other in unlike:
                self.left[one] &= ~(1 << other)
            number += 1

    def depth(self, one, other):
        """How deep such a formula must be; None if the other one follows."""
        return self.gone.get(one * self.width + other)


def is_matched(rows, behind, masks):
    """Whether of each pair of a node and one of its bits in rows each node behind the first
    has one behind the second among its own bits; masks: the bits of the goals of the second."""
    led = {}
    for node in rows:
        led[node] = bits_leading(masks, rows[node])
    return all([rows[node] & ~led.get(goal, 0) == 0 for node in rows for goal in behind[node]])


def rows_of_pairs(pairs):
    """For each first node of the pairs the bits of the second ones."""
    rows = {}
    for one, other in pairs:
        rows[one] = rows.get(one, 0) | (1 << other)
    return rows


def lots_of(lots):
    """The nodes of each lot, by its number."""
    found = [[] for _ in range(max(lots) + 1)]
    for node, lot in enumerate(lots):
        found[lot].append(node)
    return found


def nodes_left(follow, one):
    """The nodes that follow one, ascending."""
    return bits_set(follow.left[one])
