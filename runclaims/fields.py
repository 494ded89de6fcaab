"""All joint states of a SYSTEM that are come to, and PAIRS of one and a standing.

STATES and PAIRS are told by their numbers, in the order in which they are met.
"""

from runclaims.graphs import explored, goals_of
from runclaims.moves import ready_turns, state_after, told_in
from runclaims.plain import frozen
from runclaims.plans import Plan


class Field:
    """The STATES to which ready TURNS lead from some, the nearest ahead.

    nodes: they themselves; numbers: the number of each; rows: for each one the
    pairs (turn, number of the STATE behind it), by TURNS ascending; behind: for
    each one the numbers of those to which it leads.
    """

    def __init__(self, plan, states, rows):
        self.plan = plan
        self.nodes = states
        self.numbers = {state: at for at, state in enumerate(states)}
        self.rows = rows
        self.behind = goals_of(rows)

    def told(self, heard):
        """For each STATE the set of the words that are told there."""
        return [told_in(self.plan, heard, state) for state in self.nodes]


class Pairs:
    """The PAIRS to which others lead from some that begin.

    nodes: pairs of the number of a STATE and a standing; rows: for each one the
    pairs (turn, number of the PAIR behind it); starts: the numbers of those that
    begin; behind: for each one the numbers of those to which it leads; masks, full:
    the bits of its sets of marks, and those of all sets.
    """

    def __init__(self, works, nodes, rows, starts):
        self.nodes = nodes
        self.rows = rows
        self.starts = starts
        self.behind = goals_of(rows)
        self.masks = [works.masks[standing] for _, standing in nodes]
        self.full = works.full


def field_from(plan, starts):
    """The Field of the STATES to which TURNS lead from these."""
    def rows_of(state):
        return [(turn, state_after(plan, state, turn)) for turn in ready_turns(plan, state)]

    states, rows = explored(starts, rows_of)
    return Field(plan, states, rows)


def field_of(system):
    """The Field of the STATES of a SYSTEM that are come to."""
    plan = Plan(frozen(system))
    return field_from(plan, [plan.first])


def pairs_from(field, works, told, begun):
    """The PAIRS that come if those of the STATES begun and of the standings to start with
    begin; told has what is told at each STATE of the Field."""
    bits = [works.bits_of(words) for words in told]

    def rows_of(pair):
        here, standing = pair
        goals = works.goals_on(standing, bits[here])
        return [(turn, (there, goal)) for turn, there in field.rows[here] for goal in goals]

    starts = [(here, standing) for here in begun for standing in works.starts]
    nodes, rows = explored(starts, rows_of)
    return Pairs(works, nodes, rows, list(range(len(starts))))


def pairs_of(field, works, heard):
    """The PAIRS of a SYSTEM that come."""
    return pairs_from(field, works, field.told(heard), [0])
