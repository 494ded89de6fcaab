"""CHOICES of a part to go alone at STATES, and what is come to by FEWER TURNS."""

from runclaims.fields import Field
from runclaims.forms import is_state_form
from runclaims.graphs import components, explored, goes_on
from runclaims.laps import lap_states
from runclaims.moves import ready_turns, state_after
from runclaims.plain import is_ascending, is_row
from runclaims.touching import places_apart


def ready_pairs(plan, state, part):
    """The ready TURNS of a part alone, ascending."""
    return [turn for turn in ready_turns(plan, state) if turn[:1] == (part,) and len(turn) == 2]


def turns_by(plan, chosen, state):
    """The FEWER TURNS at a STATE; chosen has the number of the part of each STATE in the CHOICE."""
    if state in chosen:
        return ready_pairs(plan, state, chosen[state])
    return ready_turns(plan, state)


def fewer_lap_states(plan, chosen, thing):
    """The STATES ahead of the TURNS of thing, if it is a FEWER LAP; otherwise None."""
    found = lap_states(plan, plan.first, thing)
    if found is None:
        return None
    turns = thing[0] + thing[1]
    if not all([turn in turns_by(plan, chosen, state) for state, turn in zip(found, turns)]):
        return None
    return found


def fewer_field(plan, chosen):
    """The Field of the STATES to which FEWER TURNS lead from the beginning."""
    def rows_of(state):
        return [(turn, state_after(plan, state, turn)) for turn in turns_by(plan, chosen, state)]

    states, rows = explored([plan.first], rows_of)
    return Field(plan, states, rows)


def choice_in(field, choice):
    """The number of the part of each STATE in a choice; None unless its STATES are unlike
    and come to, each with a part that has a ready pair there."""
    plan, chosen = field.plan, {}
    for state, part in choice:
        if state in chosen or state not in field.numbers or part not in plan.part_at:
            return None
        chosen[state] = plan.part_at[part]
        if not ready_pairs(plan, state, chosen[state]):
            return None
    return chosen


def full_choice_in(field, heard, choice):
    """The same; None also unless each part is at a place apart."""
    chosen = choice_in(field, choice)
    if chosen is None:
        return None
    apart = apart_of_parts(field.plan, heard)
    for state in chosen:
        if state[0][chosen[state]] not in apart[chosen[state]]:
            return None
    return chosen


def apart_of_parts(plan, heard):
    """The places apart of each part."""
    return [places_apart(plan, heard, part) for part in range(len(plan.charts))]


def is_choice_form(plan, thing):
    """Whether thing is an ascending tuple of pairs of a STATE and a string."""
    if type(thing) is not tuple or not all([is_row(pair, 2) for pair in thing]):
        return False
    for state, part in thing:
        if not is_state_form(plan, state) or type(part) is not str:
            return False
    return is_ascending(thing)


def alone_round(field, chosen):
    """The numbers of STATES of a Field of FEWER TURNS between which it goes round, all of
    them in the CHOICE; None if there are none."""
    nodes = [at for at, state in enumerate(field.nodes) if state in chosen]
    for row in components(field.behind, nodes):
        if goes_on(field.behind, row):
            return row
    return None


def found_choice(plan, heard):
    """A good CHOICE, made along the STATES that are come to by its own FEWER TURNS."""
    apart = apart_of_parts(plan, heard)
    chosen, behind = {}, {}
    states, met, at = [plan.first], {plan.first: True}, 0
    while at < len(states):
        here = states[at]
        at += 1
        for part, place in enumerate(here[0]):
            goals = [state_after(plan, here, turn) for turn in ready_pairs(plan, here, part)]
            if here not in chosen and place in apart[part] and goals:
                if not _leads_to(behind, goals, here):
                    chosen[here] = part
                    behind[here] = goals
        for turn in turns_by(plan, chosen, here):
            goal = state_after(plan, here, turn)
            if goal not in met:
                met[goal] = True
                states.append(goal)
    return chosen


def _leads_to(behind, starts, wanted):
    """Whether STATES in the CHOICE alone lead from starts to the wanted one."""
    row = list(starts)
    met = {state: True for state in row}
    at = 0
    while at < len(row):
        here = row[at]
        at += 1
        if here == wanted:
            return True
        for goal in behind.get(here, []):
            if goal not in met:
                met[goal] = True
                row.append(goal)
    return False
