"""Two systems side by side as one graph: the STATES of the first one ahead."""

from runclaims.errors import Unfit
from runclaims.fields import field_of
from runclaims.forms import is_state_form
from runclaims.plain import frozen, is_ascending, is_row


class Sides:
    """The STATES of two Fields as the nodes of one graph.

    one, other: the Fields; many: how many STATES the first one has, which is the number
    of the first node of the other one; sets: what is told at each node; behind: the nodes
    to which each one leads.
    """

    def __init__(self, one, ones, other, others):
        self.one = one
        self.other = other
        self.many = len(one.nodes)
        self.sets = one.told(ones) + other.told(others)
        moved = [[goal + self.many for goal in row] for row in other.behind]
        self.behind = one.behind + moved

    def state_pairs(self, rows):
        """The ascending tuple of the pairs of STATES; rows has for each node of the first
        Field nodes of the other one."""
        order = sorted(self.other.nodes)
        ranks = {self.other.numbers[state] + self.many: at for at, state in enumerate(order)}
        found = []
        for state in sorted(self.one.nodes):
            later = sorted([ranks[node] for node in rows[self.one.numbers[state]]])
            found.extend([(state, order[at]) for at in later])
        return tuple(found)

    def node_pairs(self, thing):
        """The pairs of nodes of an ascending tuple of pairs of STATES come to, the first ones
        being one of them and all pairs told alike; None if thing is none."""
        if type(thing) is not tuple or not all([is_row(pair, 2) for pair in thing]):
            return None
        for state, later in thing:
            if not (is_state_form(self.one.plan, state) and is_state_form(self.other.plan, later)):
                return None
        if not is_ascending(thing):
            return None
        found = []
        for state, later in thing:
            if state not in self.one.numbers or later not in self.other.numbers:
                return None
            pair = (self.one.numbers[state], self.other.numbers[later] + self.many)
            if self.sets[pair[0]] != self.sets[pair[1]]:
                return None
            found.append(pair)
        return found if (0, self.many) in found else None


def sides_of(one, ones, other, others):
    """Both systems side by side; raises Unfit unless their words are the same."""
    words, also = frozen(ones), frozen(others)
    if [pair[0] for pair in words] != [pair[0] for pair in also]:
        raise Unfit()
    return Sides(field_of(one), words, field_of(other), also)
