"""PAIRS of a STATE and a standing of a MACHINE; FULL CIRCLES and RANKS of these."""

from runclaims.errors import Unfit
from runclaims.fields import field_of, pairs_of
from runclaims.graphs import components, fewest_in_lasso, goes_on, lasso, mask_of
from runclaims.moves import ready_turns, state_after, told_in
from runclaims.pairforms import are_pairs_that_come, is_pair_form, told_pairs
from runclaims.plain import as_set, frozen, is_number, is_row
from runclaims.plans import Plan
from runclaims.works import works_of


def come_pairs(system, heard, machine):
    """The ascending list of the PAIRS that come."""
    field, _, pairs = _made(system, heard, machine)
    return sorted(told_pairs(field, pairs))


def led_from(system, heard, machine, state, standing):
    """The ascending list of the PAIRS to which this one leads."""
    plan, here, works = Plan(frozen(system)), frozen(state), works_of(frozen(machine))
    goals = works.goals_on(standing, works.bits_of(told_in(plan, frozen(heard), here)))
    there = [state_after(plan, here, turn) for turn in ready_turns(plan, here)]
    return list(as_set([(behind, goal) for behind in there for goal in goals]))


def full_circle(system, heard, machine):
    """A FULL CIRCLE; None if there is none."""
    field, _, pairs = _made(system, heard, machine)
    found = lasso(pairs.behind, pairs.starts, pairs.masks, pairs.full)
    if found is None:
        return None
    told = told_pairs(field, pairs)
    return tuple([tuple([told[node] for node in row]) for row in found])


def is_full_circle(system, heard, machine, thing):
    """Whether thing is a FULL CIRCLE."""
    field, works, pairs = _made(system, heard, machine)
    if not is_row(thing, 2) or not (type(thing[0]) is tuple and type(thing[1]) is tuple):
        return False
    row = thing[0] + thing[1]
    if len(thing[1]) == 0 or not all([is_pair_form(field.plan, works, pair) for pair in row]):
        return False
    numbers = {pair: at for at, pair in enumerate(told_pairs(field, pairs))}
    if not all([pair in numbers for pair in row]):
        return False
    nodes = [numbers[pair] for pair in row]
    again = nodes[len(thing[0]):]
    if nodes[0] not in pairs.starts or mask_of(pairs.masks, again) != pairs.full:
        return False
    ahead = nodes[1:] + again[:1]
    return all([goal in pairs.behind[node] for node, goal in zip(nodes, ahead)])


def ranks(system, heard, machine):
    """The least RANKS; None if there are none."""
    field, _, pairs = _made_with_one_set(system, heard, machine)
    return least_ranks(field, pairs)


def is_ranks(system, heard, machine, thing):
    """Whether thing are RANKS."""
    field, works, pairs = _made_with_one_set(system, heard, machine)
    return are_ranks(field, works, pairs, thing)


def fewest_pairs(system, heard, machine):
    """How many PAIRS a FULL CIRCLE has at the least; None if there is none."""
    _, _, pairs = _made_with_one_set(system, heard, machine)
    return fewest_in_lasso(pairs.behind, pairs.starts, pairs.masks, pairs.full)


def least_ranks(field, pairs):
    """The least RANKS of PAIRS with one set of marks; None if there are none."""
    numbers = [0 for _ in pairs.nodes]
    for row in components(pairs.behind, list(range(len(pairs.nodes)))):
        goals = [goal for node in row for goal in pairs.behind[node]]
        # Those of the row itself have the number 0 as yet.
        least = max([numbers[goal] for goal in goals], default=0)
        marked = mask_of(pairs.masks, row)
        if marked and goes_on(pairs.behind, row):
            return None
        for node in row:
            numbers[node] = least + marked if goals else 0
    told = told_pairs(field, pairs)
    return tuple(sorted([(*pair, number) for pair, number in zip(told, numbers)]))


def are_ranks(field, works, pairs, thing):
    """Whether thing are RANKS of PAIRS with one set of marks."""
    if not are_pairs_that_come(field, works, pairs, thing):
        return False
    if not all([is_number(row[2]) and row[2] >= 0 for row in thing]):
        return False
    given = {row[:2]: row[2] for row in thing}
    numbers = [given[pair] for pair in told_pairs(field, pairs)]
    return all([
        numbers[node] >= numbers[goal] + pairs.masks[node]
        for node, row in enumerate(pairs.behind) for goal in row
    ])


def _made(system, heard, machine):
    """The Field of the SYSTEM, the MACHINE made ready, and the PAIRS that come."""
    field, works = field_of(system), works_of(frozen(machine))
    return field, works, pairs_of(field, works, frozen(heard))


def _made_with_one_set(system, heard, machine):
    """The same; raises Unfit unless there is just one set of marks."""
    if len(machine[3]) != 1:
        raise Unfit()
    return _made(system, heard, machine)
