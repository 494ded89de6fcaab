"""CLAIMS, what they say, their PAPERS: told as plainly as can be."""

from goings import Goings
from helper import Maker
from laps import FairPairs, plain_fair, plain_told
from plainmachines import PlainPairs, met
from runclaims.formulas import is_true, left_behind
from runclaims.makers import machine_for

WITH_TEST = ("always", "can", "back")


class PairsFrom(PlainPairs):
    """The PAIRS that come if runs begin at this STATE."""

    def __init__(self, system, heard, machine, state):
        self.goings = Goings(system)
        self.heard, self.machine, self.behind = heard, machine, {}
        self.starts = [(state, standing) for standing in machine[1]]
        self.nodes = met(self.starts, self.leads)


class Said:
    """A SYSTEM whose runs all begin with some TURNS, and what CLAIMS say of it."""

    def __init__(self, system, turns=()):
        self.system, self.turns, self.goings = system, turns, Goings(system)
        self.way = [self.goings.begin()]
        for turn in turns:
            self.way.append(self.goings.after(self.way[-1], turn))
        self.come = met(self.way[-1:], self.leads)
        self.states = met(self.way + self.come, lambda state: [])

    def leads(self, state):
        return [self.goings.after(state, turn) for turn in self.goings.ready(state)]

    def moves(self, state):
        return [turn for turn in self.goings.ready(state) if turn != ()]

    def breaks(self, state, turn):
        if len(turn) != 2:
            return False
        deed = self.goings.steps[turn[0]][turn[1]][1]
        return deed[0] == "check" and not self.goings.test(state, deed[1])

    def has_ended(self, state, part):
        return not any([row[0] == state[0][part] for row in self.goings.steps[part]])

    def stuck(self, state):
        return self.goings.ready(state) == ((),) and not all([self.has_ended(state, part) for part in range(len(state[0]))])

    def so(self, test, states=None):
        return [state for state in (self.states if states is None else states) if self.goings.test(state, test)]

    def lost(self, test, state):
        return self.so(test, met([state], self.leads)) == []

    def stands(self, claim):
        kind = claim[0]
        if kind == "always":
            return len(self.so(claim[1])) == len(self.states)
        if kind == "can":
            return self.so(claim[1]) != []
        if kind == "checked":
            steps = list(zip(self.way, self.turns)) + [(state, turn) for state in self.come for turn in self.goings.ready(state)]
            return not any([self.breaks(state, turn) for state, turn in steps])
        if kind == "moves":
            return not any([self.stuck(state) for state in self.states])
        if kind == "back":
            return not any([self.lost(claim[1], state) for state in self.states])
        _, heard, formula, kinds = claim
        rows = [tuple([word for word, test in heard if self.goings.test(state, test)]) for state in self.way[:-1]]
        machine = machine_for(("not", left_behind(formula, tuple(rows))))
        return not FairPairs(PairsFrom(self.system, heard, machine, self.way[-1])).has_fair_round(kinds)

    # PAPERS of things that have the right shape.

    def row(self, thing):
        """The STATES along a ROW; None if it is none."""
        found = [self.goings.begin()]
        for turn in thing:
            if turn == () or turn not in self.goings.ready(found[-1]):
                return None
            found.append(self.goings.after(found[-1], turn))
        return found

    def is_closed(self, thing):
        return list(thing) == sorted(set(thing)) and all([goal in thing for state in thing for goal in self.leads(state)])

    def is_hold(self, thing):
        return self.is_closed(thing) and self.goings.begin() in thing

    def is_for(self, claim, thing):
        kind = claim[0]
        if kind == "keeps":
            _, heard, formula, kinds = claim
            machine = machine_for(("not", formula))
            return FairPairs(PlainPairs(self.system, heard, machine)).are_falls(kinds, thing)
        if kind == "can":
            states = self.row(thing)
            return states is not None and self.goings.test(states[-1], claim[1])
        if kind == "back":
            numbers = dict(thing)
            if list(thing) != sorted(thing) or len(numbers) < len(thing) or not self.is_hold(tuple(sorted(numbers))):
                return False
            for state, number in thing:
                lesser = [goal for goal in [self.goings.after(state, turn) for turn in self.moves(state)] if numbers[goal] < number]
                if number < 0 or (number == 0) != self.goings.test(state, claim[1]) or (number > 0 and not lesser):
                    return False
            return True
        if not self.is_hold(thing):
            return False
        if kind == "always":
            return len(self.so(claim[1], thing)) == len(thing)
        if kind == "moves":
            return not any([self.stuck(state) for state in thing])
        return not any([self.breaks(state, turn) for state in thing for turn in self.goings.ready(state)])

    def is_against(self, claim, thing):
        kind = claim[0]
        if kind == "keeps":
            _, heard, formula, kinds = claim
            return plain_fair(self.goings, kinds, thing) and not is_true(formula, plain_told(self.goings, heard, thing))
        if kind == "can":
            return self.is_hold(thing) and self.so(claim[1], thing) == []
        if kind == "back":
            states = self.row(thing[0])
            return states is not None and self.is_closed(thing[1]) and states[-1] in thing[1] and self.so(claim[1], thing[1]) == []
        states = self.row(thing)
        if states is None:
            return False
        if kind == "always":
            return not self.goings.test(states[-1], claim[1])
        if kind == "moves":
            return self.stuck(states[-1])
        return len(thing) > 0 and self.breaks(states[-2], thing[-1])


def some_test(maker, system):
    return maker.heard(system, "p")[0][1]


def some_claims(maker, system, many):
    """CLAIMS of a SYSTEM."""
    found = []
    for _ in range(many):
        kind = maker.pick("always", "can", "back", "checked", "moves", "keeps", "keeps")
        if kind == "keeps":
            heard = maker.heard(system, "pq")
            word = maker.pick(("word", "p"), ("word", "q"))
            formula = maker.pick(maker.formula("pq", 2), ("always", ("ever", word)), ("ever", word), ("always", word))
            kinds = tuple([maker.pick("none", "weak", "strong") for _ in system[2]])
            found.append((kind, heard, formula, kinds))
        elif kind in WITH_TEST:
            test = some_test(maker, system)
            found.append((kind, maker.pick(test, ("not", test))))
        else:
            found.append((kind,))
    return found


def small_systems(seed, many, most=9):
    maker = Maker(seed)
    for number in range(many):
        parts = maker.pick(1, 2, 2, 3)
        if number % 3 == 0:
            yield maker, maker.looping(most, min(parts, 2))
        else:
            yield maker, maker.busy(most) if number % 3 == 1 else maker.small(most, 2, parts=parts)
