"""What is told along runs, row by row: each row of sets leads to a set of joint states.

Sets of joint states are told by their bits; 0 is where nothing is told yet.
"""

from runclaims.graphs import components, goes_on
from runclaims.plain import bits_set, is_name_set


class Tellings:
    """The rows of sets that are told along a Field, from its first STATE on.

    sets: what is told at each STATE; behind: those to which each one leads; squeezed:
    whether a set told again right behind itself is left out; closed: for each STATE the
    bits of those that are come to while nothing new is told; resting: the bits of those
    from which on nothing new may be told for ever (0 if not squeezed).
    """

    def __init__(self, field, heard, squeezed):
        self.sets = field.told(heard)
        self.behind = field.behind
        self.squeezed = squeezed
        self.closed = [1 << at for at in range(len(self.sets))]
        self.resting = 0
        self.known = {0: {self.sets[0]: 1}}
        if squeezed:
            self.close()

    def close(self):
        """Find what is come to while nothing new is told."""
        still = [
            [goal for goal in row if self.sets[goal] == told]
            for row, told in zip(self.behind, self.sets)
        ]
        for row in components(still, list(range(len(still)))):
            own = 0
            for node in row:
                own |= 1 << node
            if goes_on(still, row):
                self.resting |= own
            for node in row:
                for goal in still[node]:
                    own |= self.closed[goal]
            for node in row:
                self.closed[node] = own
        self.known = {0: {self.sets[0]: self.closed[0]}}

    def led_on(self, bits):
        """For each set that may be told next, ascending, the bits of the STATES come to."""
        if bits not in self.known:
            found = {}
            for node in bits_set(bits):
                for goal in self.behind[node]:
                    told = self.sets[goal]
                    if not self.squeezed or told != self.sets[node]:
                        found[told] = found.get(told, 0) | self.closed[goal]
            self.known[bits] = {told: found[told] for told in sorted(found)}
        return self.known[bits]

    def behind_row(self, row):
        """The bits of the STATES to which a row of sets leads; None if it is not told."""
        bits = 0
        for told in row:
            ahead = self.led_on(bits)
            if told not in ahead:
                return None
            bits = ahead[told]
        return bits

    def rests(self, bits):
        """Whether nothing new may be told for ever behind these STATES."""
        return bits & self.resting != 0


def is_told_form(thing):
    """Whether thing is a tuple of sets of NAMEs."""
    return type(thing) is tuple and all([is_name_set(told) for told in thing])


def first_apart(one, other):
    """A pair (row, ends) of a shortest row that runs of just one of two Tellings tell, the
    least of these, ends being False; or that runs of just one tell and then rest, ends
    being True; None if there is none."""
    todo, rows, at = [(0, 0)], [()], 0
    met = {(0, 0): True}
    while at < len(todo):
        first, second = todo[at]
        row = rows[at]
        at += 1
        if one.rests(first) != other.rests(second):
            return row, True
        ahead, also = one.led_on(first), other.led_on(second)
        for told in sorted(set(list(ahead) + list(also))):
            if told not in ahead or told not in also:
                return (*row, told), False
            goal = (ahead[told], also[told])
            if goal not in met:
                met[goal] = True
                todo.append(goal)
                rows.append((*row, told))
    return None
