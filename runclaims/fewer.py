"""Fewer orders: what is touched, places apart, CHOICES, FEWER TURNS."""

from runclaims.choices import (
    alone_round, choice_in, fewer_field, fewer_lap_states, found_choice, full_choice_in,
    is_choice_form, turns_by,
)
from runclaims.errors import NoNumber, Unfit
from runclaims.fields import field_of
from runclaims.graphs import circle_in, way_to
from runclaims.laps import lap_of
from runclaims.moves import ready_turns
from runclaims.plain import as_set, frozen
from runclaims.plans import Plan, part_number
from runclaims.touching import places_apart, shared_for, touched_by, touched_by_heard


def touched(system, part, number):
    """The sets of the cells, the queues, the labels that a STEP touches."""
    plan = Plan(frozen(system))
    own = part_number(plan, part)
    if not 0 <= number < len(plan.charts[own].steps):
        raise NoNumber(number)
    return _sets(touched_by(plan, own, number))


def heard_touched(heard):
    """The same of HEARD words."""
    return _sets(touched_by_heard(frozen(heard)))


def shared(system, heard, part):
    """The same of all that is shared for a part."""
    plan = Plan(frozen(system))
    return _sets(shared_for(plan, frozen(heard), part_number(plan, part)))


def apart_places(system, heard, part):
    """The set of the places of a part that are apart."""
    plan = Plan(frozen(system))
    return tuple(places_apart(plan, frozen(heard), part_number(plan, part)))


def may_go_alone(system, heard, state):
    """The set of the parts that are at a place apart of theirs and have a ready TURN."""
    plan, here, words = Plan(frozen(system)), frozen(state), frozen(heard)
    ready = {part: True for turn in ready_turns(plan, here) for part in turn[::2]}
    return tuple([
        name for part, name in enumerate(plan.part_rows)
        if part in ready and here[0][part] in places_apart(plan, words, part)
    ])


def is_choice(system, heard, thing):
    """Whether thing is a CHOICE."""
    field = field_of(system)
    return is_choice_form(field.plan, thing) and full_choice_in(field, frozen(heard), thing) is not None


def is_good(system, heard, thing):
    """Whether thing is a good CHOICE."""
    return is_choice(system, heard, thing) and alone_lap(system, heard, thing) is None


def alone_lap(system, heard, choice):
    """A FEWER LAP in whose round all STATES are in the CHOICE; None if it is good."""
    plan, chosen = _choice_of(system, heard, choice)
    fewer = fewer_field(plan, chosen)
    component = alone_round(fewer, chosen)
    if component is None:
        return None
    nodes = {at: True for at in range(len(fewer.nodes))}
    way = way_to(fewer.behind, nodes, [0], {at: True for at in component})
    again = circle_in(fewer.behind, component, way[-1], [0 for _ in nodes], 0)
    return lap_of(fewer.rows, (way[:-1], again))


def is_alone_lap(system, heard, choice, thing):
    """Whether thing is such a LAP."""
    plan, chosen = _choice_of(system, heard, choice)
    found = fewer_lap_states(plan, chosen, thing)
    if found is None:
        return False
    return all([state in chosen for state in found[len(thing[0]):]])


def good_choice(system, heard):
    """A good CHOICE, with a pair in it if some good one has one."""
    plan = Plan(frozen(system))
    chosen = found_choice(plan, frozen(heard))
    return tuple(sorted([(state, plan.part_rows[chosen[state]]) for state in chosen]))


def fewer_turns(system, choice, state):
    """The set of the FEWER TURNS at a STATE."""
    field = field_of(system)
    return tuple(turns_by(field.plan, _fit_choice(field, choice), frozen(state)))


def fewer_states(system, choice):
    """The ascending list of the STATES to which FEWER TURNS lead from the beginning."""
    field = field_of(system)
    return sorted(fewer_field(field.plan, _fit_choice(field, choice)).nodes)


def how_many(system, choice):
    """How many STATES are come to, and how many by FEWER TURNS."""
    return len(field_of(system).nodes), len(fewer_states(system, choice))


def _sets(rows):
    """Each of the rows as a set."""
    return tuple([as_set(row) for row in rows])


def _fit_choice(field, choice):
    """The number of the part of each STATE in a choice, which must be one but for heard."""
    chosen = choice_in(field, frozen(choice))
    if chosen is None:
        raise Unfit()
    return chosen


def _choice_of(system, heard, choice):
    """The SYSTEM made ready, and the number of the part of each STATE in a CHOICE."""
    field = field_of(system)
    chosen = full_choice_in(field, frozen(heard), frozen(choice))
    if chosen is None:
        raise Unfit()
    return field.plan, chosen
