"""LAPS, fair LAPS and FALLS told as plainly as can be."""

import itertools

from goings import Goings
from plainmachines import closure


def is_turn(thing):
    return type(thing) is tuple and len(thing) in (0, 2, 4) and all([type(number) is int for number in thing])


def states_of(goings, state, turns):
    """The STATES from this one on; None if a TURN is not ready in its turn."""
    found = [state]
    for turn in turns:
        if turn not in goings.ready(found[-1]):
            return None
        found.append(goings.after(found[-1], turn))
    return found


def plain_lap(goings, thing, state=None):
    """The STATES ahead of the TURNS of a LAP; None if thing is none."""
    if type(thing) is not tuple or len(thing) != 2 or type(thing[0]) is not tuple or type(thing[1]) is not tuple:
        return None
    if thing[1] == () or not all([is_turn(turn) for turn in thing[0] + thing[1]]):
        return None
    found = states_of(goings, state or goings.begin(), thing[0] + thing[1])
    if found is None or found[-1] != found[len(thing[0])]:
        return None
    return found[:-1]


def plain_told(goings, heard, thing):
    """The LOOP that a LAP tells."""
    sets = tuple([
        tuple([word for word, test in heard if goings.test(state, test)]) for state in plain_lap(goings, thing)
    ])
    return sets[:len(thing[0])], sets[len(thing[0]):]


def some_laps(maker, goings, many, state=None):
    """LAPS, made by going along at random until a STATE comes again."""
    found = []
    for _ in range(many):
        here, turns = state or goings.begin(), []
        met = [here]
        while True:
            turns.append(maker.pick(*goings.ready(here)))
            here = goings.after(here, turns[-1])
            met.append(here)
            back = [at for at in range(len(met) - 1) if met[at] == here]
            if back and (maker.random.random() < 0.5 or len(met) > 25):
                at = maker.pick(*back)
                found.append((tuple(turns[:at]), tuple(turns[at:])))
                break
    return found


def waiting(goings, states, turns, kinds):
    """The numbers of the parts because of which a round of these is not fair."""
    found = []
    for part, word in enumerate(kinds):
        ready = [any([part in turn[::2] for turn in goings.ready(state)]) for state in states]
        if any([part in turn[::2] for turn in turns]):
            continue
        if word == "weak" and all(ready) or word == "strong" and any(ready):
            found.append(part)
    return found


def plain_fair(goings, kinds, thing, state=None):
    """Whether thing is a LAP, or one from another STATE on, that is fair."""
    states = plain_lap(goings, thing, state)
    if states is None:
        return False
    return waiting(goings, states[len(thing[0]):], thing[1], kinds) == []


def lots_of(nodes, leads):
    """For each component all tuples of some of its nodes."""
    led = closure(nodes, lambda node: [goal for _, goal in leads(node)])
    left = list(nodes)
    while left:
        row = [node for node in left if node == left[0] or (node in led[left[0]] and left[0] in led[node])]
        left = [node for node in left if node not in row]
        yield [lot for many in range(1, len(row) + 1) for lot in itertools.combinations(row, many)]


def some_round(goings, nodes, leads, good):
    """Whether going round through all of some of these nodes, by all TURNS between
    them, is good; leads tells the pairs (turn, node) of a node."""
    for lots in lots_of(nodes, leads):
        for lot in lots:
            steps = [(turn, node, goal) for node in lot for turn, goal in leads(node) if goal in lot]
            led = closure(lot, lambda node: [goal for _, one, goal in steps if one == node])
            if all([other in led[node] for node in lot for other in lot]):
                if good(lot, [turn for turn, _, _ in steps]):
                    return True
    return False


class FairPairs:
    """PAIRS with the TURNS that lead from one to another."""

    def __init__(self, pairs):
        self.pairs, self.goings = pairs, pairs.goings

    def leads(self, pair):
        state, _ = pair
        goals = self.pairs.leads(pair)
        return [
            (turn, goal) for turn in self.goings.ready(state)
            for goal in goals if goal[0] == self.goings.after(state, turn)
        ]

    def has_fair_round(self, kinds):
        marks = self.pairs.machine[3]

        def good(lot, turns):
            if not all([any([pair[1] in row for pair in lot]) for row in marks]):
                return False
            return waiting(self.goings, [pair[0] for pair in lot], turns, kinds) == []

        return some_round(self.goings, self.pairs.nodes, self.leads, good)

    def are_falls(self, kinds, thing):
        """Whether thing, of the right shape, are FALLS, by the words of the document."""
        numbers, reasons = thing
        names = [row[0] for row in self.goings.parts]
        if sorted([row[:2] for row in numbers]) != sorted(self.pairs.nodes) or list(numbers) != sorted(set(numbers)):
            return False
        rows = {row[:2]: row[2] for row in numbers}
        fronts = {row[:many] for row in rows.values() for many in range(1, len(row) + 1)}
        if [front for front, _ in reasons] != sorted(fronts):
            return False
        given = dict(reasons)
        marks = self.pairs.machine[3]
        for front, reason in reasons:
            within = [pair for pair in rows if rows[pair][:len(front)] == front]
            stays = [
                turn for pair in within for turn, goal in self.leads(pair) if rows[goal][:len(front)] == front
            ]
            if reason[0] == "less" and stays:
                return False
            if reason[0] == "mark" and any([pair[1] in marks[reason[1]] for pair in within]):
                return False
            if reason[0] == "part":
                part = names.index(reason[1])
                if kinds[part] == "none" or any([part in turn[::2] for turn in stays]):
                    return False
                if kinds[part] == "weak" and not all([self.is_ready(pair, part) for pair in within]):
                    return False
        for pair, row in rows.items():
            for many in range(1, len(row) + 1):
                reason = given[row[:many]]
                ends = many == len(row)
                if reason[0] == "part" and kinds[names.index(reason[1])] == "strong":
                    if ends != self.is_ready(pair, names.index(reason[1])):
                        return False
                elif not ends:
                    return False
            for _, goal in self.leads(pair):
                unlike = [(one, other) for one, other in zip(row, rows[goal]) if one != other]
                if unlike and unlike[0][1] > unlike[0][0]:
                    return False
        return True

    def is_ready(self, pair, part):
        return any([part in turn[::2] for turn in self.goings.ready(pair[0])])
