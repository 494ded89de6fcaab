"""LAPS of a SYSTEM: TURNS that go round for ever, and what is told along them."""

from runclaims.errors import NoWord
from runclaims.formulaparts import formula_rows, truths_of
from runclaims.forms import is_lap_form
from runclaims.graphs import lasso
from runclaims.moves import ready_turns, state_after, told_in
from runclaims.plain import frozen


def states_along(plan, state, turns):
    """The list of the STATES from this one on; None if a TURN is not ready in its turn."""
    found = [state]
    for turn in turns:
        if turn not in ready_turns(plan, found[-1]):
            return None
        found.append(state_after(plan, found[-1], turn))
    return found


def lap_states(plan, state, thing):
    """The STATES ahead of the TURNS of thing, if it is a pair of tuples of TURNS from this
    STATE on, the second one not () and leading back to where it begins; otherwise None."""
    if not is_lap_form(thing):
        return None
    found = states_along(plan, state, thing[0] + thing[1])
    if found is None or found[-1] != found[len(thing[0])]:
        return None
    return found[:-1]


def told_loop(plan, heard, states, many):
    """The LOOP that is told at STATES, the first so many of which are the front."""
    told = tuple([told_in(plan, heard, state) for state in states])
    return told[:many], told[many:]


def is_true_of(formula, loop):
    """Whether a FORMULA of tuples is true of a LOOP of tuples."""
    front, circle = loop
    return truths_of(formula_rows(formula), front + circle, len(front))[-1][0]


def is_lap_where(plan, heard, formula, thing, wanted):
    """Whether thing is a LAP that tells a LOOP of which a FORMULA is true, or not, as wanted."""
    states = lap_states(plan, plan.first, thing)
    if states is None:
        return False
    return is_true_of(formula, told_loop(plan, heard, states, len(thing[0]))) == wanted


def turns_along(rows, nodes):
    """TURNS that lead from each of the nodes to the next one; rows are as those of a Field."""
    found = []
    for at in range(len(nodes) - 1):
        goal = nodes[at + 1]
        found.append([turn for turn, there in rows[nodes[at]] if there == goal][0])
    return found


def lap_of(rows, found):
    """The pair of tuples of TURNS along a way and a circle behind it."""
    first, again = found
    turns = turns_along(rows, first + again + again[:1])
    return tuple(turns[:len(first)]), tuple(turns[len(first):])


def lap_in(pairs):
    """A LAP along which PAIRS go round by all marks; None if there is none."""
    found = lasso(pairs.behind, pairs.starts, pairs.masks, pairs.full)
    if found is None:
        return None
    return lap_of(pairs.rows, found)


def heard_formula(heard, formula):
    """HEARD words and a FORMULA about them, of tuples alone."""
    words, wanted = frozen(heard), frozen(formula)
    refuse_unheard(words, (wanted,))
    return words, wanted


def refuse_unheard(heard, formulas):
    """Raise NoWord for the first word of these FORMULAS of tuples that is not heard."""
    words = [word for word, _ in heard]
    for formula in formulas:
        # Rows come as what they tell is written: words stand in them from left to right.
        for row in formula_rows(formula):
            if row[0] == "word" and row[1] not in words:
                raise NoWord(row[1])
