"""MACHINES, what they take, NUMBERS, PAIRS: told as plainly as can be."""

from goings import Goings


def can_be_made(move, told):
    _, yes, no, _ = move
    return all([word in told for word in yes]) and not any([word in told for word in no])


def can_ever_be_made(move):
    return not set(move[1]) & set(move[2])


def closure(nodes, leads):
    """For each node the set of those to which one step or more lead."""
    behind = {node: set(leads(node)) for node in nodes}
    for middle in nodes:
        for node in nodes:
            if middle in behind[node]:
                behind[node] |= behind[middle]
    return behind


def met(starts, leads):
    """All to which leads comes from starts."""
    found = list(dict.fromkeys(starts))
    for node in found:
        found.extend([goal for goal in dict.fromkeys(leads(node)) if goal not in found])
    return found


def entries_of_rounds(starts, leads, standing_of, marks):
    """The nodes that are met and go round by way of each set of marks."""
    nodes = met(starts, leads)
    behind = closure(nodes, leads)
    found = []
    for node in nodes:
        ring = [other for other in behind[node] if node in behind[other]]
        if node in behind[node]:
            if all([any([standing_of(other) in row for other in ring]) for row in marks]):
                found.append(node)
    return found, behind, nodes


def plain_takes(machine, loop):
    many, starts, moves, marks = machine
    sets = loop[0] + loop[1]

    def leads(node):
        place, standing = node
        ahead = place + 1 if place + 1 < len(sets) else len(loop[0])
        return [(ahead, row[3]) for row in moves if row[0] == standing and can_be_made(row, sets[place])]

    return entries_of_rounds([(0, one) for one in starts], leads, lambda node: node[1], marks)[0] != []


def machine_leads(machine):
    moves = [row for row in machine[2] if can_ever_be_made(row)]
    return lambda standing: [row[3] for row in moves if row[0] == standing]


def plain_live(machine):
    rounds, behind, nodes = entries_of_rounds(machine[1], machine_leads(machine), lambda node: node, machine[3])
    return tuple(sorted([node for node in nodes if node in rounds or set(rounds) & behind[node]]))


def plain_fewest(starts, leads, standing_of, marks):
    """How few nodes a way and a circle with all marks have, told by growing all walks."""
    rounds, behind, nodes = entries_of_rounds(starts, leads, standing_of, marks)
    if not rounds:
        return None
    far, layer, at = {}, list(starts), 0
    while layer:
        for node in layer:
            far.setdefault(node, at)
        layer = [goal for goal in {goal: 0 for node in layer for goal in leads(node)} if goal not in far]
        at += 1
    best = None
    for entry in rounds:
        marked = frozenset([at for at, row in enumerate(marks) if standing_of(entry) in row])
        seen, layer, many = set(), {(entry, marked)}, 0
        while layer and (best is None or many < best):
            many += 1
            seen |= layer
            ahead = set()
            for node, got in layer:
                for goal in leads(node):
                    if goal == entry and len(got) == len(marks):
                        best = min(far[entry] + many, best or 10 ** 9)
                    more = [at for at, row in enumerate(marks) if standing_of(goal) in row]
                    ahead.add((goal, got.union(more)))
            layer = ahead - seen
    return best


def plain_path(machine, loop, thing):
    """Whether thing, built as a pair of tuples of standings, is a PATH with all marks in again."""
    many, starts, moves, marks = machine
    front, circle = loop
    first, again = thing
    if len(first) not in [len(front) + some * len(circle) for some in range(9)]:
        return False
    if len(again) not in [some * len(circle) for some in range(1, 9)]:
        return False
    row = first + again + again[:1]
    sets = front + circle * 20
    if row[0] not in starts or not all([set(again) & set(own) for own in marks]):
        return False
    return all([
        any([move[0] == row[at] and move[3] == row[at + 1] and can_be_made(move, sets[at]) for move in moves])
        for at in range(len(row) - 1)
    ])


def plain_numbers(machine, thing):
    """Whether thing, of the right shape, are NUMBERS for the MACHINE."""
    many, starts, moves, marks = machine
    numbers, sets = thing
    moves = [row for row in moves if can_ever_be_made(row) and numbers[row[0]] is not None]
    if any([numbers[standing] is None for standing in starts]):
        return False
    for row in moves:
        if numbers[row[3]] is None or numbers[row[3]] > numbers[row[0]]:
            return False
    greatest = max([number for number in numbers if number is not None], default=-1)
    if len(sets) != greatest + 1:
        return False
    for number, place in enumerate(sets):
        within = [row for row in moves if numbers[row[0]] == number == numbers[row[3]]]
        if place is None:
            if within:
                return False
        elif not 0 <= place < len(marks) or any([row[0] in marks[place] for row in within]):
            return False
    return True


class PlainPairs:
    """The PAIRS of a system and a machine, by the words of the document."""

    def __init__(self, system, heard, machine):
        self.goings = Goings(system)
        self.heard, self.machine = heard, machine
        self.behind = {}
        starts = [(self.goings.begin(), standing) for standing in machine[1]]
        self.starts = starts
        self.nodes = met(starts, self.leads)

    def told(self, state):
        return tuple([word for word, test in self.heard if self.goings.test(state, test)])

    def leads(self, pair):
        if pair not in self.behind:
            state, standing = pair
            told = self.told(state)
            goals = [row[3] for row in self.machine[2] if row[0] == standing and can_be_made(row, told)]
            there = [self.goings.after(state, turn) for turn in self.goings.ready(state)]
            self.behind[pair] = sorted({(behind, goal) for behind in there for goal in goals})
        return self.behind[pair]

    def has_circle(self):
        return entries_of_rounds(self.starts, self.leads, lambda pair: pair[1], self.machine[3])[0] != []

    def fewest(self):
        return plain_fewest(self.starts, self.leads, lambda pair: pair[1], self.machine[3])

    def ranks(self):
        """The least RANKS, grown from 0 until nothing is lacking; None if they never stop."""
        numbers = {pair: 0 for pair in self.nodes}
        for _ in range(len(self.nodes) + 2):
            grown = {
                pair: max([numbers[goal] for goal in self.leads(pair)]) + (pair[1] in self.machine[3][0])
                if self.leads(pair) else 0
                for pair in self.nodes
            }
            if grown == numbers:
                return tuple(sorted([(*pair, numbers[pair]) for pair in numbers]))
            numbers = grown
        return None
