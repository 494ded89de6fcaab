"""CLAIMS of a SYSTEM, and PAPERS for and against them."""

from runclaims.claimforms import is_claim_of
from runclaims.errors import Unfit
from runclaims.fair import fair_against, falls, is_fair_against, is_falls
from runclaims.fields import field_from, field_of
from runclaims.findings import (
    how_far, is_closed_set, is_hold_set, is_stuck, lost_in, nearest_row, row_states, still_in,
    where_so,
)
from runclaims.makers import machine_for
from runclaims.moves import breaks_check, holds, ready_turns, state_after
from runclaims.outlooks import Outlook, stands_in
from runclaims.plain import frozen, is_number, is_row
from runclaims.plans import Plan
from runclaims.reach import broken_checks, broken_row


def is_claim(system, thing):
    """Whether thing is a CLAIM of the SYSTEM."""
    return is_claim_of(frozen(system), thing)


def is_hold(system, thing):
    """Whether thing is a HOLD, of STATES come to or not."""
    return is_hold_set(Plan(frozen(system)), thing)


def stands(system, claim):
    """Whether what the CLAIM says is so."""
    given, own = _claim_of(system, claim)
    return stands_in(Outlook(Plan(given), ()), own)


def paper_for(system, claim):
    """A PAPER for the CLAIM; None if there is none."""
    given, own = _claim_of(system, claim)
    kind = own[0]
    if kind == "keeps":
        return falls(given, own[1], machine_for(("not", own[2])), own[3])
    field = field_of(given)
    if kind == "can":
        return nearest_row(field, where_so(field, own[1]))
    if not stands_in(Outlook(field.plan, ()), own):
        return None
    if kind == "back":
        far = how_far(field, own[1])
        return tuple(sorted([(field.nodes[at], far[at]) for at in far]))
    return tuple(sorted(field.nodes))


def paper_against(system, claim):
    """A PAPER against the CLAIM; None if there is none."""
    given, own = _claim_of(system, claim)
    kind = own[0]
    if kind == "keeps":
        return fair_against(given, own[1], own[2], own[3])
    if kind == "checked":
        return _breaking_row(given)
    field = field_of(given)
    if kind == "moves":
        return nearest_row(field, still_in(field, False))
    if kind == "always":
        return nearest_row(field, where_so(field, ("not", own[1])))
    if kind == "back":
        return _lost_pair(field, own[1])
    return None if where_so(field, own[1]) else tuple(sorted(field.nodes))


def is_paper_for(system, claim, thing):
    """Whether thing is a PAPER for the CLAIM."""
    given, own = _claim_of(system, claim)
    plan, kind = Plan(given), own[0]
    if kind == "keeps":
        return is_falls(given, own[1], machine_for(("not", own[2])), own[3], thing)
    if kind == "can":
        return _leads_where(plan, own[1], thing, True)
    if kind == "back":
        return _counts_down(plan, own[1], thing)
    if not is_hold_set(plan, thing):
        return False
    if kind == "always":
        return all([holds(plan, state, own[1]) for state in thing])
    if kind == "moves":
        return not any([is_stuck(plan, state) for state in thing])
    return not any([
        breaks_check(plan, state, turn) for state in thing for turn in ready_turns(plan, state)
    ])


def is_paper_against(system, claim, thing):
    """Whether thing is a PAPER against the CLAIM."""
    given, own = _claim_of(system, claim)
    plan, kind = Plan(given), own[0]
    if kind == "keeps":
        return is_fair_against(given, own[1], own[2], own[3], thing)
    if kind == "can":
        return is_hold_set(plan, thing) and not any([holds(plan, state, own[1]) for state in thing])
    if kind == "always":
        return _leads_where(plan, own[1], thing, False)
    if kind == "back":
        return _is_lost_pair(plan, own[1], thing)
    states = row_states(plan, thing)
    if states is None:
        return False
    if kind == "moves":
        return is_stuck(plan, states[-1])
    return len(thing) > 0 and breaks_check(plan, states[-2], thing[-1])


def _claim_of(system, claim):
    """The SYSTEM and the CLAIM of tuples; raises Unfit if it is none of the SYSTEM."""
    given, own = frozen(system), frozen(claim)
    if not is_claim_of(given, own):
        raise Unfit()
    return given, own


def _breaking_row(system):
    """The least of the shortest ROWS whose last TURN breaks a check; None if there are none."""
    rows = [broken_row(system, part, step) for part, step in broken_checks(system)]
    return min(rows, key=_by_length, default=None)


def _by_length(row):
    """What tells the least of the shortest ROWS."""
    return (len(row), row)


def _lost_pair(field, test):
    """The nearest ROW to a STATE lost for the TEST, and all STATES behind it; None if no
    STATE is lost."""
    row = nearest_row(field, lost_in(field, test))
    if row is None:
        return None
    behind = field_from(field.plan, row_states(field.plan, row)[-1:])
    return row, tuple(sorted(behind.nodes))


def _leads_where(plan, test, thing, wanted):
    """Whether thing is a ROW to a STATE at which a TEST is so, or not, as wanted."""
    states = row_states(plan, thing)
    return states is not None and holds(plan, states[-1], test) == wanted


def _counts_down(plan, test, thing):
    """Whether thing has numbers for the STATES of a HOLD that fall along some TURNS down to 0,
    just where a TEST is so."""
    if type(thing) is not tuple or not all([is_row(row, 2) for row in thing]):
        return False
    if not is_hold_set(plan, tuple([state for state, _ in thing])):
        return False
    if not all([is_number(number) and number >= 0 for _, number in thing]):
        return False
    numbers = {state: number for state, number in thing}
    for state in numbers:
        if (numbers[state] == 0) != holds(plan, state, test):
            return False
        behind = [numbers[state_after(plan, state, turn)] for turn in ready_turns(plan, state)]
        if numbers[state] > 0 and min(behind, default=numbers[state]) >= numbers[state]:
            return False
    return True


def _is_lost_pair(plan, test, thing):
    """Whether thing is a pair of a ROW and a set of STATES with the one to which it leads, and
    with all STATES behind these, at none of which a TEST is so."""
    if not is_row(thing, 2) or not is_closed_set(plan, thing[1]):
        return False
    states = row_states(plan, thing[0])
    if states is None or states[-1] not in thing[1]:
        return False
    return not any([holds(plan, state, test) for state in thing[1]])
