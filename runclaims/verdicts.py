"""What a SYSTEM keeps, of all its runs, and papers for that."""

from runclaims.errors import NotReady, NoWord, Unfit
from runclaims.fields import field_of, pairs_from, pairs_of
from runclaims.formulas import opposite, words_of
from runclaims.graphs import (
    components, come_from, depths_from, full_components, goes_on, live_nodes,
)
from runclaims.laps import (
    heard_formula, is_lap_where, lap_in, lap_states, refuse_unheard, states_along, told_loop,
)
from runclaims.makers import machine_for, one_set
from runclaims.plain import frozen
from runclaims.plans import Plan
from runclaims.ranks import are_ranks, least_ranks
from runclaims.tableaus import works_against, works_for
from runclaims.works import works_of


def is_lap(system, thing):
    """Whether thing is a LAP."""
    plan = Plan(frozen(system))
    return lap_states(plan, plan.first, thing) is not None


def lap_told(system, heard, lap):
    """The LOOP that a LAP tells."""
    plan = Plan(frozen(system))
    turns, circle = frozen(lap)
    states = states_along(plan, plan.first, turns + circle)
    if states is None:
        raise NotReady()
    if circle == () or states[-1] != states[len(turns)]:
        raise Unfit()
    return told_loop(plan, frozen(heard), states[:-1], len(turns))


def keeps(system, heard, formula):
    """Whether the SYSTEM keeps the FORMULA."""
    return kept_of(system, heard, (formula,)) == (0,)


def against(system, heard, formula):
    """A LAP that tells a LOOP of which it is not true; None if there is none."""
    words, wanted = heard_formula(heard, formula)
    return _lap_taken(field_of(system), words, works_against(wanted))


def is_against(system, heard, formula, thing):
    """Whether thing is a LAP that tells a LOOP of which it is not true."""
    words, wanted = heard_formula(heard, formula)
    return is_lap_where(Plan(frozen(system)), words, wanted, thing, False)


def witness(system, heard, formula):
    """A LAP that tells a LOOP of which it is true; None if there is none."""
    words, wanted = heard_formula(heard, formula)
    return _lap_taken(field_of(system), words, works_for(wanted))


def is_witness(system, heard, formula, thing):
    """Whether thing is a LAP that tells a LOOP of which it is true."""
    words, wanted = heard_formula(heard, formula)
    return is_lap_where(Plan(frozen(system)), words, wanted, thing, True)


def kept_of(system, heard, formulas):
    """The set of the places of those that are kept."""
    words, rows = frozen(heard), frozen(formulas)
    refuse_unheard(words, rows)
    field = field_of(system)
    told = field.told(words)
    return tuple([
        at for at, formula in enumerate(rows) if _is_kept(field, told, works_against(formula))
    ])


def keeping_states(system, heard, formula):
    """The ascending list of the STATES come to from which on it is kept."""
    words, wanted = heard_formula(heard, formula)
    field = field_of(system)
    begun = list(range(len(field.nodes)))
    pairs = pairs_from(field, works_against(wanted), field.told(words), begun)
    live = live_nodes(pairs.behind, pairs.starts, pairs.masks, pairs.full)
    begin = {node: True for node in pairs.starts}
    lost = {pairs.nodes[node][0]: True for node in live if node in begin}
    return sorted([field.nodes[at] for at in begun if at not in lost])


def hangs_on(system, heard, formula):
    """The set of the words in it by which the verdict turns."""
    words, wanted = heard_formula(heard, formula)
    field, works = field_of(system), works_against(wanted)
    told = field.told(words)
    kept = _is_kept(field, told, works)
    found = []
    for word in words_of(wanted):
        without = [tuple([other for other in row if other != word]) for row in told]
        turned = [_is_kept(field, row, works) for row in (without, _with_word(without, word))]
        if turned != [kept, kept]:
            found.append(word)
    return tuple(found)


def soonest_told(system, heard, word):
    """How few TURNS are taken ahead of the first STATE that tells the word; None if none does."""
    field, telling = _told_where(system, heard, word)
    depths = depths_from(field.behind, [0])
    return min([depths[at] for at in telling], default=None)


def latest_told(system, heard, word):
    """How many TURNS are taken ahead of it at the most; None if some run never tells it."""
    field, telling = _told_where(system, heard, word)
    if 0 in telling:
        return 0
    behind = [
        [goal for goal in row if goal not in telling] for row in field.behind
    ]
    many = {}
    for row in components(behind, come_from(behind, [0])):
        if goes_on(behind, row):
            return None
        many[row[0]] = 1 + max([many[goal] for goal in behind[row[0]]], default=0)
    return many[0]


def verdict(system, heard, formula):
    """The least RANKS if it is kept, else a LAP against it."""
    words, wanted = heard_formula(heard, formula)
    field, works = field_of(system), _works_of_verdict(wanted)
    pairs = pairs_of(field, works, words)
    found = least_ranks(field, pairs)
    if found is not None:
        return ("kept", found)
    turns, circle = lap_in(pairs)
    return ("against", turns, circle)


def is_verdict(system, heard, formula, thing):
    """Whether thing is a verdict: RANKS, least or not, or a LAP against it."""
    words, wanted = heard_formula(heard, formula)
    if type(thing) is not tuple or len(thing) == 0:
        return False
    if thing[0] == "against":
        return is_lap_where(Plan(frozen(system)), words, wanted, thing[1:], False)
    if thing[0] != "kept" or len(thing) != 2:
        return False
    field, works = field_of(system), _works_of_verdict(wanted)
    return are_ranks(field, works, pairs_of(field, works, words), thing[1])


def _is_kept(field, told, works):
    """Whether no run tells a LOOP that the Works take; told has what each STATE tells."""
    pairs = pairs_from(field, works, told, [0])
    nodes = list(range(len(pairs.nodes)))
    return full_components(pairs.behind, nodes, pairs.masks, pairs.full) == []


def _lap_taken(field, words, works):
    """A LAP that tells a LOOP that the Works take; None if there is none."""
    return lap_in(pairs_of(field, works, words))


def _works_of_verdict(formula):
    """The MACHINE with one set of marks for the OPPOSITE, made ready."""
    return works_of(one_set(machine_for(opposite(formula))))


def _with_word(told, word):
    """The sets with this word in each of them."""
    return [tuple(sorted([*row, word])) for row in told]


def _told_where(system, heard, word):
    """The Field of the SYSTEM, and the numbers of the STATES that tell the word."""
    words = frozen(heard)
    if word not in [own for own, _ in words]:
        raise NoWord(word)
    field = field_of(system)
    return field, {at: True for at, row in enumerate(field.told(words)) if word in row}
