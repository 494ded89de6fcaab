"""Whether any value is a PAIR, or tells something of each PAIR that comes."""

from runclaims.forms import is_state_form
from runclaims.plain import is_number_from, is_row


def told_pairs(field, pairs):
    """Each of the PAIRS as a STATE and a standing."""
    return [(field.nodes[here], standing) for here, standing in pairs.nodes]


def is_pair_form(plan, works, thing):
    """Whether thing is a PAIR of a STATE and a standing, come to or not."""
    if not is_row(thing, 2) or not is_state_form(plan, thing[0]):
        return False
    return is_number_from(thing[1], 0, len(works.rows) - 1)


def are_pairs_that_come(field, works, pairs, thing):
    """Whether thing is a tuple of triples, ascending, that begin with the PAIRS that come,
    just one with each."""
    if type(thing) is not tuple or not all([is_row(row, 3) for row in thing]):
        return False
    if not all([is_pair_form(field.plan, works, row[:2]) for row in thing]):
        return False
    return [row[:2] for row in thing] == sorted(told_pairs(field, pairs))
