"""STEP FORMULAS, PAIRINGS, FOLLOWINGS: which STATES of systems nobody can tell apart."""

from runclaims.apartness import chooser_by_following, chooser_by_lots, formula_between
from runclaims.errors import Unfit
from runclaims.fields import field_of
from runclaims.likeness import (
    Follow, depth_apart, is_matched, lots_by_depth, lots_of, nodes_left, rows_of_pairs,
)
from runclaims.plain import as_set, frozen
from runclaims.sides import sides_of
from runclaims.stepformulas import bits_where_true, depth_of, goal_masks, is_step_form


def is_step_formula(thing):
    """Whether thing is a STEP FORMULA."""
    return is_step_form(thing, False)


def is_plain(thing):
    """Whether thing is a plain STEP FORMULA."""
    return is_step_form(thing, True)


def steps_deep(formula):
    """The depth of a STEP FORMULA."""
    return depth_of(frozen(formula))


def is_step_true(system, heard, state, formula):
    """Whether a STEP FORMULA is true at a STATE."""
    field = field_of(system)
    node = _node_of(field, state)
    bits = bits_where_true(frozen(formula), field.told(frozen(heard)), field.behind)
    return bits & (1 << node) != 0


def can_pair(one, ones, other, others):
    """Whether there is a PAIRING."""
    return rounds_apart(one, ones, other, others) is None


def greatest_pairing(one, ones, other, others):
    """The PAIRING in which all others lie; None if there is none."""
    sides = sides_of(one, ones, other, others)
    last = lots_by_depth(sides.sets, sides.behind)[-1]
    if last[0] != last[sides.many]:
        return None
    rows = [[node for node in row if node >= sides.many] for row in lots_of(last)]
    return sides.state_pairs([rows[lot] for lot in last])


def is_pairing(one, ones, other, others, thing):
    """Whether thing is a PAIRING."""
    sides = sides_of(one, ones, other, others)
    pairs = sides.node_pairs(thing)
    if pairs is None:
        return False
    masks = goal_masks(sides.behind)
    turned = [(later, node) for node, later in pairs]
    return is_matched(rows_of_pairs(pairs), sides.behind, masks) and is_matched(
        rows_of_pairs(turned), sides.behind, masks,
    )


def step_apart(one, ones, other, others):
    """A STEP FORMULA of the least depth that is true at the first STATE of one and not at
    that of other; None if there is none."""
    sides = sides_of(one, ones, other, others)
    found = lots_by_depth(sides.sets, sides.behind)
    if found[-1][0] == found[-1][sides.many]:
        return None
    choose = chooser_by_lots(found, sides.behind)
    return formula_between(sides.sets, sides.behind, choose, (0, sides.many))


def is_step_apart(one, ones, other, others, thing):
    """Whether thing is a STEP FORMULA that is true at the first STATE of one alone."""
    sides = sides_of(one, ones, other, others)
    return is_step_form(thing, False) and _is_true_at_first_alone(sides, thing)


def rounds_apart(one, ones, other, others):
    """The least depth of a STEP FORMULA that tells both apart; None if there is none."""
    sides = sides_of(one, ones, other, others)
    found = lots_by_depth(sides.sets, sides.behind)
    depth = depth_apart(found, 0, sides.many)
    return None if depth == len(found) else depth


def follows(one, ones, other, others):
    """Whether other follows one."""
    sides = sides_of(one, ones, other, others)
    return sides.many in nodes_left(_follow(sides), 0)


def greatest_following(one, ones, other, others):
    """The FOLLOWING in which all others lie; None if there is none."""
    sides = sides_of(one, ones, other, others)
    follow = _follow(sides)
    if sides.many not in nodes_left(follow, 0):
        return None
    return sides.state_pairs([nodes_left(follow, node) for node in range(sides.many)])


def is_following(one, ones, other, others, thing):
    """Whether thing is a FOLLOWING."""
    sides = sides_of(one, ones, other, others)
    pairs = sides.node_pairs(thing)
    if pairs is None:
        return False
    return is_matched(rows_of_pairs(pairs), sides.behind, goal_masks(sides.behind))


def plain_apart(one, ones, other, others):
    """A plain STEP FORMULA that is true at the first STATE of one and not at that of other;
    None if there is none."""
    sides = sides_of(one, ones, other, others)
    follow = _follow(sides)
    if follow.depth(0, sides.many) is None:
        return None
    choose = chooser_by_following(follow, sides.behind)
    return formula_between(sides.sets, sides.behind, choose, (0, sides.many))


def is_plain_apart(one, ones, other, others, thing):
    """Whether thing is a plain STEP FORMULA that is true at the first STATE of one alone."""
    sides = sides_of(one, ones, other, others)
    return is_step_form(thing, True) and _is_true_at_first_alone(sides, thing)


def lots(system, heard):
    """The ascending list of the sets of STATES that no STEP FORMULA tells apart."""
    return _lots_of_states(field_of(system), frozen(heard))


def least_model(system, heard):
    """A triple: the number of the lot with the first STATE, what is told in each lot, and
    the numbers of the lots behind each."""
    field, words = field_of(system), frozen(heard)
    rows = [[field.numbers[state] for state in row] for row in _lots_of_states(field, words)]
    homes = {node: lot for lot, row in enumerate(rows) for node in row}
    told = field.told(words)
    behind = [as_set([homes[goal] for node in row for goal in field.behind[node]]) for row in rows]
    return (homes[0], tuple([told[row[0]] for row in rows]), tuple(behind))


def in_one_lot(system, heard, state, later):
    """Whether no STEP FORMULA tells two STATES apart."""
    field = field_of(system)
    one, other = _node_of(field, state), _node_of(field, later)
    last = lots_by_depth(field.told(frozen(heard)), field.behind)[-1]
    return last[one] == last[other]


def _node_of(field, state):
    """The number of a STATE; raises Unfit if it is not come to."""
    here = frozen(state)
    if here not in field.numbers:
        raise Unfit()
    return field.numbers[here]


def _lots_of_states(field, heard):
    """The ascending list of the lots of the STATES of a Field."""
    last = lots_by_depth(field.told(heard), field.behind)[-1]
    return sorted([tuple(sorted([field.nodes[node] for node in row])) for row in lots_of(last)])


def _follow(sides):
    """Who follows the STATES of the first system."""
    return Follow(sides.sets, sides.behind, sides.many)


def _is_true_at_first_alone(sides, formula):
    """Whether a STEP FORMULA is true at the first STATE of the first system alone."""
    bits = bits_where_true(formula, sides.sets, sides.behind)
    return bits & 1 != 0 and bits & (1 << sides.many) == 0
