"""What can be come to: STATES, ROWS of TURNS, what is stuck, broken, always so, lost.

The idle TURN is none here.
"""

from runclaims.errors import NoCell, NoNumber, NoQueue, Unfit
from runclaims.fields import field_from, field_of
from runclaims.findings import (
    is_hold_set, lost_in, nearest_row, row_states, still_in, where_so,
)
from runclaims.forms import is_state_form
from runclaims.graphs import components, depths_from, goals_of, goes_on
from runclaims.moves import breaks_check, holds, pairs_in, ready_turns
from runclaims.plain import as_set, frozen
from runclaims.plans import Plan, part_number


def all_states(system):
    """The ascending list of the STATES come to."""
    return sorted(field_of(system).nodes)


def how_many_states(system):
    """How many STATES are come to."""
    return len(field_of(system).nodes)


def is_come_to(system, thing):
    """Whether thing is a STATE come to."""
    field = field_of(system)
    return is_state_form(field.plan, thing) and thing in field.numbers


def turns_in(system):
    """How many pairs of a STATE come to and a TURN ready there there are."""
    return sum([len(row) for row in _moves(field_of(system))])


def depth(system, state):
    """How few TURNS lead to it; None if it is not come to."""
    row = shortest_row(system, state)
    return None if row is None else len(row)


def layers(system):
    """The list of the ascending lists of the STATES of each depth."""
    field = field_of(system)
    depths = depths_from(field.behind, [0])
    found = [[] for _ in range(max([depths[at] for at in depths]) + 1)]
    for at in depths:
        found[depths[at]].append(field.nodes[at])
    return [sorted(row) for row in found]


def shortest_row(system, state):
    """The nearest ROW to it; None if it is not come to."""
    field = field_of(system)
    wanted = frozen(state)
    if wanted not in field.numbers:
        return None
    return nearest_row(field, [field.numbers[wanted]])


def is_row_to(system, state, thing):
    """Whether thing is a ROW that leads to it."""
    states = row_states(Plan(frozen(system)), thing)
    return states is not None and states[-1] == frozen(state)


def how_many_rows(system, state, number):
    """How many ROWS of just so many TURNS lead to it."""
    if number < 0:
        raise NoNumber(number)
    field = field_of(system)
    rows = _moves(field)
    many = {0: 1}
    for _ in range(number):
        ahead = {}
        for at in many:
            for _, goal in rows[at]:
                ahead[goal] = ahead.get(goal, 0) + many[at]
        many = ahead
    wanted = frozen(state)
    if wanted not in field.numbers:
        return 0
    return many.get(field.numbers[wanted], 0)


def stuck_states(system):
    """The ascending list of the stuck STATES come to."""
    field = field_of(system)
    return sorted([field.nodes[at] for at in still_in(field, False)])


def ended_states(system):
    """The ascending list of the ended STATES come to."""
    field = field_of(system)
    return sorted([field.nodes[at] for at in still_in(field, True)])


def stuck_row(system):
    """The nearest ROW to stuck STATES; None if none is come to."""
    field = field_of(system)
    return nearest_row(field, still_in(field, False))


def who_waits(system, state):
    """The set of the pairs (part, PLACE) of the parts that have not ended at a still STATE."""
    plan, here = Plan(frozen(system)), frozen(state)
    if ready_turns(plan, here) != [()]:
        raise Unfit()
    return tuple([
        (name, place) for name, place, chart in zip(plan.part_rows, here[0], plan.charts)
        if place != chart.end
    ])


def surely_rests(system):
    """Whether all ROWS have less TURNS than some number."""
    return longest_row(system) is not None


def longest_row(system):
    """The greatest number of TURNS of a ROW; None if there is none."""
    field = field_of(system)
    behind = goals_of(_moves(field))
    many = {}
    for row in components(behind, list(range(len(behind)))):
        if goes_on(behind, row):
            return None
        many[row[0]] = max([many[goal] + 1 for goal in behind[row[0]]], default=0)
    return many[0]


def broken_checks(system):
    """The set of the pairs (part, step) of the checks that a TURN of some ROW breaks."""
    field = field_of(system)
    names = field.plan.part_rows
    return as_set([
        (names[turn[0]], turn[1]) for state, row in zip(field.nodes, field.rows)
        for turn, _ in row if breaks_check(field.plan, state, turn)
    ])


def broken_row(system, part, step):
    """The least of the shortest ROWS whose last TURN breaks this check; None without any."""
    field = field_of(system)
    turn = _check_turn(field.plan, part, step)
    ahead = [
        at for at, state in enumerate(field.nodes)
        if turn in ready_turns(field.plan, state) and breaks_check(field.plan, state, turn)
    ]
    row = nearest_row(field, ahead)
    return None if row is None else (*row, turn)


def is_broken_row(system, part, step, thing):
    """Whether thing is a ROW whose last TURN breaks this check."""
    plan = Plan(frozen(system))
    turn = _check_turn(plan, part, step)
    states = row_states(plan, thing)
    if states is None or len(thing) == 0 or thing[-1] != turn:
        return False
    return breaks_check(plan, states[-2], turn)


def never_taken(system):
    """The set of the pairs (part, step) of the STEPS that no ROW takes."""
    field = field_of(system)
    taken = {}
    for row in field.rows:
        for turn, _ in row:
            for pair in pairs_in(turn):
                taken[pair] = True
    plan = field.plan
    return tuple([
        (name, number) for part, name in enumerate(plan.part_rows)
        for number in range(len(plan.charts[part].steps)) if (part, number) not in taken
    ])


def never_stood(system):
    """The set of the pairs (part, PLACE) at which it stands in no STATE come to."""
    field = field_of(system)
    plan = field.plan
    found = []
    for part, name in enumerate(plan.part_rows):
        stood = {state[0][part]: True for state in field.nodes}
        end = plan.charts[part].end
        found.extend([(name, place) for place in range(end + 1) if place not in stood])
    return tuple(found)


def never_both(system, part, other):
    """The set of the pairs of PLACES at which both stand, but never at once."""
    field = field_of(system)
    one, another = part_number(field.plan, part), part_number(field.plan, other)
    if one == another:
        raise Unfit()
    met = {(state[0][one], state[0][another]): True for state in field.nodes}
    firsts = as_set([place for place, _ in met])
    seconds = as_set([place for _, place in met])
    return tuple([(here, there) for here in firsts for there in seconds if (here, there) not in met])


def held_ever(system, cell):
    """The set of the numbers that a cell holds in STATES come to."""
    field = field_of(system)
    if cell not in field.plan.cell_at:
        raise NoCell(cell)
    at = field.plan.cell_at[cell]
    return as_set([state[1][at] for state in field.nodes])


def most_in(system, queue):
    """How many numbers lie in a queue at the most."""
    field = field_of(system)
    if queue not in field.plan.queue_at:
        raise NoQueue(queue)
    at = field.plan.queue_at[queue]
    return max([len(state[2][at]) for state in field.nodes])


def always_so(system, test):
    """Whether the TEST is so at all STATES come to."""
    field = field_of(system)
    return len(where_so(field, test)) == len(field.nodes)


def row_against(system, test):
    """The nearest ROW to STATES where it is not; None if there are none."""
    field = field_of(system)
    so = {at: True for at in where_so(field, test)}
    return nearest_row(field, [at for at in range(len(field.nodes)) if at not in so])


def fence(system, test):
    """A FENCE for the TEST; None if there is none."""
    if not always_so(system, test):
        return None
    return tuple(all_states(system))


def is_fence(system, test, thing):
    """Whether thing is a FENCE for the TEST."""
    plan, wanted = Plan(frozen(system)), frozen(test)
    return is_hold_set(plan, thing) and all([holds(plan, state, wanted) for state in thing])


def can_still(system, test):
    """Whether no STATE come to is lost for the TEST."""
    return lost_states(system, test) == []


def lost_states(system, test):
    """The ascending list of the STATES come to that are lost for the TEST."""
    field = field_of(system)
    return sorted([field.nodes[at] for at in lost_in(field, test)])


def lost_row(system, test):
    """The nearest ROW to these; None if there are none."""
    field = field_of(system)
    return nearest_row(field, lost_in(field, test))


def soonest(system, state, test):
    """With how few TURNS from this STATE on the TEST can be so; None if it is lost."""
    field = field_from(Plan(frozen(system)), [frozen(state)])
    depths = depths_from(field.behind, [0])
    return min([depths[at] for at in where_so(field, test)], default=None)


def _moves(field):
    """The rows of a Field without the idle TURN."""
    return [[(turn, goal) for turn, goal in row if turn != ()] for row in field.rows]


def _check_turn(plan, part, step):
    """The TURN of a check."""
    number = part_number(plan, part)
    if not 0 <= step < len(plan.charts[number].steps):
        raise NoNumber(step)
    if plan.deed(number, step)[0] != "check":
        raise Unfit()
    return (number, step)
