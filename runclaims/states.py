"""Joint states of a SYSTEM, and the TURNS that lead from one to another."""

from runclaims.errors import NoCell, NoNumber, NoQueue, NotReady, Unfit
from runclaims.forms import is_state_form, is_turn_form
from runclaims.moves import (
    breaks_check, holds, open_steps, ready_turns, state_after, told_in, worth,
)
from runclaims.plain import frozen
from runclaims.plans import Plan, part_number


def begin(system):
    """The STATE at the beginning."""
    return _plan(system).first


def is_state(system, thing):
    """Whether thing is a STATE, come to or not."""
    return is_state_form(_plan(system), thing)


def number_at(system, state, value):
    """What a VALUE is."""
    return worth(_plan(system), frozen(state), frozen(value))


def is_so(system, state, test):
    """Whether a TEST is so."""
    return holds(_plan(system), frozen(state), frozen(test))


def place_at(system, state, part):
    """The PLACE of a part."""
    return frozen(state)[0][part_number(_plan(system), part)]


def held_in(system, state, cell):
    """What a cell holds."""
    plan = _plan(system)
    if cell not in plan.cell_at:
        raise NoCell(cell)
    return frozen(state)[1][plan.cell_at[cell]]


def lying(system, state, queue):
    """The tuple of what lies in a queue."""
    plan = _plan(system)
    if queue not in plan.queue_at:
        raise NoQueue(queue)
    return frozen(state)[2][plan.queue_at[queue]]


def holder_of(system, state):
    """The name of the part that holds; None if nobody does."""
    holder = frozen(state)[3]
    if holder == -1:
        return None
    return _plan(system).part_rows[holder]


def can_take(system, state, part):
    """The set of the numbers of the STEPS of a part that can be taken."""
    plan = _plan(system)
    return tuple(open_steps(plan, frozen(state), part_number(plan, part)))


def shut_steps(system, state, part):
    """The set of the numbers of the STEPS at its PLACE that can not be taken."""
    plan = _plan(system)
    here, number = frozen(state), part_number(plan, part)
    found = open_steps(plan, here, number)
    steps = plan.charts[number].leaving[here[0][number]]
    return tuple([at for at in steps if at not in found])


def ready(system, state):
    """The set of the ready TURNS."""
    return tuple(ready_turns(_plan(system), frozen(state)))


def ready_for(system, state, part):
    """The set of the ready TURNS in which a part takes part."""
    plan = _plan(system)
    number = part_number(plan, part)
    return tuple(_turns_with(plan, frozen(state), number))


def after(system, state, turn):
    """The STATE behind a TURN."""
    return _next_state(_plan(system), frozen(state), frozen(turn))


def states(system, turns):
    """The list of the STATES from the beginning on."""
    return _states_along(_plan(system), frozen(turns))


def last_state(system, turns):
    """The STATE behind all of these TURNS."""
    return states(system, turns)[-1]


def is_turns(system, thing):
    """Whether thing is a tuple of TURNS, each ready in its turn."""
    plan = _plan(system)
    if type(thing) is not tuple:
        return False
    state = plan.first
    for turn in thing:
        if not is_turn_form(turn) or turn not in ready_turns(plan, state):
            return False
        state = state_after(plan, state, turn)
    return True


def is_still(system, state):
    """Whether the idle TURN is ready."""
    return ready(system, state) == ((),)


def ended_parts(system, state):
    """The set of the names of the parts that have ended."""
    plan = _plan(system)
    places = frozen(state)[0]
    return tuple([
        name for name, chart, place in zip(plan.part_rows, plan.charts, places)
        if place == chart.end
    ])


def shut_parts(system, state):
    """The set of the names of the parts that have not ended and can't take any STEP."""
    plan, here = _plan(system), frozen(state)
    ended = ended_parts(system, here)
    return tuple([
        name for at, name in enumerate(plan.part_rows)
        if name not in ended and not open_steps(plan, here, at)
    ])


def taking_part(system, turn):
    """The set of the names of the parts in a TURN."""
    numbers = frozen(turn)[::2]
    names = _plan(system).part_rows
    return tuple([name for at, name in enumerate(names) if at in numbers])


def breaks(system, state, turn):
    """Whether a TURN breaks a check."""
    plan, here, taken = _plan(system), frozen(state), frozen(turn)
    _refuse_unready(plan, here, taken)
    return breaks_check(plan, here, taken)


def broken(system, turns):
    """The set of the numbers of those TURNS that break a check."""
    plan, taken = _plan(system), frozen(turns)
    rows = list(enumerate(zip(_states_along(plan, taken), taken)))
    return tuple([at for at, (state, turn) in rows if breaks_check(plan, state, turn)])


def told_at(system, heard, state):
    """The set of the words that are told at a STATE."""
    return told_in(_plan(system), frozen(heard), frozen(state))


def told_along(system, heard, turns):
    """The tuple of what is told at each of the STATES from the beginning on."""
    plan, words = _plan(system), frozen(heard)
    return tuple([told_in(plan, words, state) for state in _states_along(plan, frozen(turns))])


def do_commute(system, state, one, other):
    """Whether two TURNS can be taken in both orders, which come to one STATE."""
    plan, here = _plan(system), frozen(state)
    first, second = frozen(one), frozen(other)
    _refuse_unready(plan, here, first)
    _refuse_unready(plan, here, second)
    behind = _behind_both(plan, here, first, second)
    return behind is not None and behind == _behind_both(plan, here, second, first)


def swapped(system, turns, number):
    """The TURNS with this one and the next one the other way about; None if that can't be."""
    plan, taken = _plan(system), frozen(turns)
    if not 0 <= number < len(taken) - 1:
        raise NoNumber(number)
    along = _states_along(plan, taken)
    one, other = taken[number], taken[number + 1]
    if _behind_both(plan, along[number], other, one) != along[number + 2]:
        return None
    return taken[:number] + (other, one) + taken[number + 2:]


def led_by(system, row, many):
    """So many TURNS from the beginning, each one of the first part in row that has one."""
    plan, names = _plan(system), frozen(row)
    numbers = [part_number(plan, name) for name in names]
    if sorted(numbers) != list(range(len(plan.charts))):
        raise Unfit()
    state, found = plan.first, []
    for _ in range(many):
        turns = ready_turns(plan, state)
        leading = [turn for part in numbers for turn in turns if part in turn[::2]]
        found.append(leading[0] if leading else ())
        state = state_after(plan, state, found[-1])
    return tuple(found)


def _plan(system):
    """The SYSTEM, made ready."""
    return Plan(frozen(system))


def _turns_with(plan, state, part):
    """The ready TURNS in which a part takes part."""
    return [turn for turn in ready_turns(plan, state) if part in turn[::2]]


def _refuse_unready(plan, state, turn):
    """Raise NotReady unless the TURN is ready."""
    if turn not in ready_turns(plan, state):
        raise NotReady()


def _next_state(plan, state, turn):
    """The STATE behind a TURN, which must be ready."""
    _refuse_unready(plan, state, turn)
    return state_after(plan, state, turn)


def _states_along(plan, turns):
    """The list of the STATES from the beginning on, each TURN ready in its turn."""
    found = [plan.first]
    for turn in turns:
        found.append(_next_state(plan, found[-1], turn))
    return found


def _behind_both(plan, state, one, other):
    """The STATE behind both TURNS; None if they can't be taken in this order."""
    if one not in ready_turns(plan, state):
        return None
    between = state_after(plan, state, one)
    if other not in ready_turns(plan, between):
        return None
    return state_after(plan, between, other)
