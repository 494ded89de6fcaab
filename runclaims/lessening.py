"""Works made less: standings that are alike in all that follows become one."""

from runclaims.graphs import components, goes_on, mask_of
from runclaims.plain import numbered
from runclaims.works import Works, lean_works


def lessened(works):
    """Works that take the same, with the fewest standings and marks that can be had at little cost."""
    now = _with_few_sets(lean_works(works))
    while True:
        less = _with_few_sets(lean_works(_merged(now)))
        if len(less.rows) == len(now.rows) and less.sets == now.sets:
            return less
        now = less


def _with_few_sets(works):
    """The same with marks just where ways go round by which all sets are met, without
    the sets that are met whenever the others are."""
    nodes = list(range(len(works.rows)))
    rounds = [row for row in components(works.behind, nodes) if goes_on(works.behind, row)]
    inside = [
        node for row in rounds if mask_of(works.masks, row) == works.full for node in row
    ]
    kept = []
    for at in range(works.sets):
        kept = _with_set(kept, [node for node in inside if works.masks[node] & (1 << at)])
    # A set that holds whatever goes round tells nothing.
    if len(kept) == 1 and len(kept[0]) == sum([len(row) for row in rounds]):
        kept = []
    masks = [0 for _ in nodes]
    for at, row in enumerate(kept):
        for node in row:
            masks[node] |= 1 << at
    return Works(works.words, works.starts, works.rows, masks, len(kept))


def _with_set(kept, row):
    """The sets kept and this one, without those that hold all of another one."""
    own = {node: True for node in row}
    if any([all([node in own for node in other]) for other in kept]):
        return kept
    rest = []
    for other in kept:
        there = {node: True for node in other}
        if not all([node in there for node in row]):
            rest.append(other)
    return rest + [row]


def _merged(works):
    """The same with one standing for all those of the same marks whose moves lead alike."""
    lots = numbered(works.masks)
    many = 0
    while max(lots, default=-1) + 1 > many:
        many = max(lots) + 1
        lots = numbered([
            (lots[node], tuple(_moves_between(row, lots))) for node, row in enumerate(works.rows)
        ])
    firsts = {}
    for node, lot in enumerate(lots):
        if lot not in firsts:
            firsts[lot] = node
    rows = [_least_moves(_moves_between(works.rows[firsts[lot]], lots)) for lot in firsts]
    starts = sorted(set([lots[node] for node in works.starts]))
    masks = [works.masks[firsts[lot]] for lot in firsts]
    return Works(works.words, starts, rows, masks, works.sets)


def _moves_between(row, lots):
    """The moves of a standing, ascending, with lots for the goals."""
    return sorted(set([(label, lots[goal]) for label, goal in row]))


def _least_moves(moves):
    """The moves without those to whose goal another one leads on fewer words."""
    return [
        (label, goal) for label, goal in moves
        if not any([
            there == goal and other != label and _is_less(other, label) for other, there in moves
        ])
    ]


def _is_less(one, other):
    """Whether the words yes and no of one are among those of other."""
    return one[0] & ~other[0] == 0 and one[1] & ~other[1] == 0
