"""What is found along STATES that are come to: nearest ROWS, still, lost; HOLDS.

The idle TURN is none here.
"""

from runclaims.forms import are_turns_form, is_state_form
from runclaims.graphs import depths_from, turned_round
from runclaims.laps import states_along
from runclaims.moves import holds, ready_turns, state_after
from runclaims.plain import frozen, is_ascending


def nearest_row(field, wanted):
    """The nearest ROW to some of the STATES of a Field; None if there are none."""
    if len(wanted) == 0:
        return None
    # STATES are numbered in the order of the nearest ROWS to them: TURNS are tried ascending.
    at = min(wanted)
    came = {}
    for here, row in enumerate(field.rows):
        for turn, goal in row:
            if goal > here and goal not in came:
                came[goal] = (here, turn)
    turns = []
    while at != 0:
        at, turn = came[at]
        turns.append(turn)
    return tuple(turns[::-1])


def row_states(plan, thing):
    """The STATES from the beginning on along a ROW; None if thing is none."""
    if not are_turns_form(thing) or () in thing:
        return None
    return states_along(plan, plan.first, thing)


def still_in(field, ended):
    """The numbers of the still STATES at which all parts have ended, or not all, as told."""
    ends = tuple([chart.end for chart in field.plan.charts])
    return [
        at for at, state in enumerate(field.nodes)
        if [turn for turn, _ in field.rows[at]] == [()] and (state[0] == ends) == ended
    ]


def where_so(field, test):
    """The numbers of the STATES at which a TEST is so."""
    wanted = frozen(test)
    return [at for at, state in enumerate(field.nodes) if holds(field.plan, state, wanted)]


def lost_in(field, test):
    """The numbers of the STATES that are lost for a TEST."""
    kept = how_far(field, test)
    return [at for at in range(len(field.nodes)) if at not in kept]


def how_far(field, test):
    """For the number of each STATE that is not lost for a TEST with how few TURNS from it on
    the TEST can be so."""
    return depths_from(turned_round(field.behind), where_so(field, test))


def is_stuck(plan, state):
    """Whether a STATE is still, and not all parts have ended."""
    ends = tuple([chart.end for chart in plan.charts])
    return ready_turns(plan, state) == [()] and state[0] != ends


def is_closed_set(plan, thing):
    """Whether thing is a set of STATES, with each one all those behind its TURNS."""
    if type(thing) is not tuple or not all([is_state_form(plan, state) for state in thing]):
        return False
    if not is_ascending(thing):
        return False
    within = {state: True for state in thing}
    return all([
        state_after(plan, state, turn) in within for state in thing for turn in ready_turns(plan, state)
    ])


def is_hold_set(plan, thing):
    """Whether thing is a HOLD."""
    return is_closed_set(plan, thing) and plan.first in thing
