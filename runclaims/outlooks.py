"""What would be so if all runs of a SYSTEM began with some TURNS."""

from runclaims.fairness import all_components, fair_component, kinds_bits, net_of_pairs
from runclaims.fields import field_from, pairs_from
from runclaims.findings import is_stuck, lost_in
from runclaims.laps import states_along
from runclaims.moves import breaks_check, holds, told_in
from runclaims.plain import as_set
from runclaims.tableaus import works_against
from runclaims.works import Works


class Outlook:
    """The STATES that are come to by runs that begin with some TURNS, each ready in its turn.

    begun: these TURNS; way: the STATES ahead of them; field: the STATES to which more
    TURNS lead from the one behind them.
    """

    def __init__(self, plan, turns):
        along = states_along(plan, plan.first, turns)
        self.begun = turns
        self.way = along[:-1]
        self.field = field_from(plan, along[-1:])


def stands_in(outlook, claim):
    """Whether what a CLAIM of tuples says is so."""
    kind = claim[0]
    plan = outlook.field.plan
    if kind == "checked":
        return not _breaks(outlook)
    if kind == "keeps":
        return _keeps(outlook, claim)
    if kind == "back":
        # Whoever leads to a STATE that is not lost is not lost.
        return lost_in(outlook.field, claim[1]) == []
    states = outlook.way + outlook.field.nodes
    if kind == "moves":
        return not any([is_stuck(plan, state) for state in states])
    so = [holds(plan, state, claim[1]) for state in states]
    return all(so) if kind == "always" else any(so)


def _breaks(outlook):
    """Whether some TURN breaks a check."""
    field = outlook.field
    steps = list(zip(outlook.way, outlook.begun))
    for state, row in zip(field.nodes, field.rows):
        steps.extend([(state, turn) for turn, _ in row])
    return any([breaks_check(field.plan, state, turn) for state, turn in steps])


def _keeps(outlook, claim):
    """Whether a FORMULA is true of what all fair runs tell."""
    _, heard, formula, kinds = claim
    field, works = outlook.field, works_against(formula)
    starts = works.starts
    for state in outlook.way:
        bits = works.bits_of(told_in(field.plan, heard, state))
        starts = as_set([goal for standing in starts for goal in works.goals_on(standing, bits)])
    begun = Works(works.words, starts, works.rows, works.masks, works.sets)
    pairs = pairs_from(field, begun, field.told(heard), [0])
    net = net_of_pairs(field, pairs)
    return fair_component(net, all_components(net), kinds_bits(kinds)) is None
