"""FEWER LAPS: what they tell is enough for each FORMULA without next."""

from runclaims.choices import alone_round, fewer_field, fewer_lap_states, full_choice_in
from runclaims.errors import Unfit
from runclaims.fields import field_of, pairs_of
from runclaims.formulas import has_next
from runclaims.graphs import explored, goals_of, lasso
from runclaims.laps import heard_formula, is_true_of, lap_in, lap_of, told_loop
from runclaims.loops import alike_but_repeats, without_repeats
from runclaims.plain import frozen
from runclaims.tableaus import works_against
from runclaims.verdicts import lap_told


def fewer_against(system, heard, formula, choice):
    """A FEWER LAP that tells a LOOP of which it is not true; None if there is none."""
    words, wanted = _still_formula(heard, formula)
    fewer, _ = _good_field(system, words, choice)
    return lap_in(pairs_of(fewer, works_against(wanted), words))


def keeps_by_fewer(system, heard, formula, choice):
    """Whether it is true of what FEWER LAPS tell, all of them."""
    return fewer_against(system, heard, formula, choice) is None


def is_fewer_against(system, heard, formula, choice, thing):
    """Whether thing is a FEWER LAP that tells a LOOP of which it is not true."""
    words, wanted = _still_formula(heard, formula)
    loop = _fewer_told(_good_field(system, words, choice), words, thing)
    return loop is not None and not is_true_of(wanted, loop)


def fewer_like(system, heard, choice, lap):
    """A FEWER LAP that tells a LOOP alike but for repeats to that which the LAP tells."""
    words = frozen(heard)
    fewer, _ = _good_field(system, words, choice)
    return _lap_like(fewer, words, without_repeats(lap_told(system, words, lap)))


def is_fewer_like(system, heard, choice, lap, thing):
    """Whether thing is such a FEWER LAP."""
    words = frozen(heard)
    good = _good_field(system, words, choice)
    wanted = lap_told(system, words, lap)
    loop = _fewer_told(good, words, thing)
    return loop is not None and alike_but_repeats(wanted, loop)


def _still_formula(heard, formula):
    """HEARD words and a FORMULA about them; raises Unfit if it has a next."""
    words, wanted = heard_formula(heard, formula)
    if has_next(wanted):
        raise Unfit()
    return words, wanted


def _good_field(system, heard, choice):
    """The Field of the STATES of FEWER TURNS, and the number of the part of each STATE in
    the CHOICE; raises Unfit if that is no good one."""
    field = field_of(system)
    chosen = full_choice_in(field, heard, frozen(choice))
    if chosen is None:
        raise Unfit()
    fewer = fewer_field(field.plan, chosen)
    if alone_round(fewer, chosen) is not None:
        raise Unfit()
    return fewer, chosen


def _fewer_told(good, heard, thing):
    """The LOOP that thing tells, if it is a FEWER LAP; otherwise None."""
    fewer, chosen = good
    states = fewer_lap_states(fewer.plan, chosen, thing)
    if states is None:
        return None
    return told_loop(fewer.plan, heard, states, len(thing[0]))


def _lap_like(field, heard, loop):
    """A LAP along a Field that tells a LOOP alike but for repeats to this one, which has no
    repeats; None if there is none."""
    front, circle = loop
    sets, last = front + circle, len(front + circle) - 1
    told = field.told(heard)

    def rows_of(node):
        here, place = node
        ahead = place + 1 if place < last else len(front)
        found = []
        for turn, goal in field.rows[here]:
            if told[goal] == told[here]:
                found.append((turn, (goal, place)))
            elif told[goal] == sets[ahead]:
                found.append((turn, (goal, ahead)))
        return found

    nodes, rows = explored([(0, 0)], rows_of)
    # Whoever goes round by the first and the last place of the round goes by all of it.
    masks = [(1 if place == len(front) else 0) | (2 if place == last else 0) for _, place in nodes]
    found = lasso(goals_of(rows), [0], masks, 3)
    return None if found is None else lap_of(rows, found)
