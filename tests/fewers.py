"""What is touched, places apart, FEWER TURNS and good CHOICES, told as plainly as can be."""

from goings import Goings
from helper import Maker
from laps import plain_lap
from plainmachines import closure, entries_of_rounds, met
from runclaims.formulas import opposite
from runclaims.makers import machine_for
from runclaims.systems import test_cells, test_labels, test_queues
from runclaims.tables import (
    end_of, held_places, how_many_places, step_asks, step_labels, step_lets, step_queues, step_reads, steps_at,
    steps_of,
)


def joined(rows):
    return tuple([tuple(sorted({one for row in rows for one in row[at]})) for at in range(3)])


def plain_touched(system, part, number):
    place, deed, _, _ = steps_of(system, part)[number]
    numbers = steps_at(system, part, place) if deed == ("else",) else (number,)
    return joined([
        (
            step_reads(system, part, at) + step_lets(system, part, at), step_queues(system, part, at),
            step_asks(system, part, at) + tuple([(part, label) for label in step_labels(system, part, at)]),
        )
        for at in numbers
    ])


def plain_heard(heard):
    return joined([(test_cells(test), test_queues(test), test_labels(test)) for _, test in heard])


def plain_shared(system, heard, part):
    rows = [plain_heard(heard)]
    for other, _ in system[2]:
        if other != part:
            rows.extend([plain_touched(system, other, at) for at in range(len(steps_of(system, other)))])
    return joined(rows)


def handed(system, part, place):
    """The queues of room 0 that STEPS from this place put into or get from."""
    rooms = {row[0]: row[1] for row in system[1]}
    deeds = [steps_of(system, part)[at][1] for at in steps_at(system, part, place)]
    return {deed[1] for deed in deeds if deed[0] in ("put", "get") and rooms[deed[1]] == 0}


def plain_apart(system, heard, part):
    common = plain_shared(system, heard, part)
    waited = set()
    for other, _ in system[2]:
        if other != part:
            elses = {step[0] for step in steps_of(system, other) if step[1] == ("else",)}
            for place in set(held_places(system, other)) | elses:
                waited |= handed(system, other, place)
    found = []
    for place in range(how_many_places(system, part)):
        good = place != end_of(system, part)
        for number in steps_at(system, part, place):
            own = plain_touched(system, part, number)
            _, _, goal, once = steps_of(system, part)[number]
            if once or any([set(one) & set(other) for one, other in zip(own, common)]) or handed(system, part, goal) & waited:
                good = False
        if good:
            found.append(place)
    return tuple(found)


class Fewer:
    """The STATES, and FEWER TURNS, by the words of the document."""

    def __init__(self, system, heard):
        self.goings, self.heard = Goings(system), heard
        self.states = self.goings.all_states()
        self.names = [row[0] for row in system[2]]
        self.apart = [plain_apart(system, heard, name) for name in self.names]

    def pairs(self, state, name):
        part = self.names.index(name)
        return tuple([turn for turn in self.goings.ready(state) if len(turn) == 2 and turn[0] == part])

    def turns(self, choice, state):
        told = dict(choice)
        return self.pairs(state, told[state]) if state in told else self.goings.ready(state)

    def leads(self, choice):
        return lambda state: [self.goings.after(state, turn) for turn in self.turns(choice, state)]

    def come(self, choice):
        return met([self.goings.begin()], self.leads(choice))

    def options(self):
        """All pairs that may stand in a CHOICE."""
        return [
            (state, name) for state in self.states for part, name in enumerate(self.names)
            if state[0][part] in self.apart[part] and self.pairs(state, name)
        ]

    def is_choice(self, thing):
        states = [state for state, _ in thing]
        if not all([pair in self.options() for pair in thing]):
            return False
        return list(thing) == sorted(thing) and len(set(states)) == len(states)

    def is_good(self, choice):
        told = dict(choice)
        nodes = [state for state in self.come(choice) if state in told]
        led = closure(nodes, lambda state: [goal for goal in self.leads(choice)(state) if goal in nodes])
        return not any([state in led[state] for state in nodes])

    def keeps(self, choice, formula):
        """Whether a FORMULA is true of what FEWER LAPS tell."""
        machine = machine_for(opposite(formula))
        goings = self.goings

        def leads(pair):
            told = [word for word, test in self.heard if goings.test(pair[0], test)]
            goals = [row[3] for row in machine[2] if row[0] == pair[1] and set(row[1]) <= set(told) and not set(row[2]) & set(told)]
            return [(state, goal) for state in self.leads(choice)(pair[0]) for goal in goals]

        starts = [(goings.begin(), standing) for standing in machine[1]]
        return entries_of_rounds(starts, leads, lambda pair: pair[1], machine[3])[0] == []

    def is_lap(self, choice, lap):
        """Whether a LAP is one of FEWER TURNS alone."""
        turns = lap[0] + lap[1]
        return all([turn in self.turns(choice, state) for state, turn in zip(plain_lap(self.goings, lap), turns)])


def samples(seed, many, most=14, words="p"):
    maker = Maker(seed)
    for _ in range(many):
        system = maker.small(most, parts=maker.random.randint(2, 3))
        yield maker, system, maker.heard(system, words)


def some_choice(maker, fewer):
    told = {}
    for state, name in fewer.options():
        if maker.random.random() < 0.5:
            told[state] = name
    return tuple(sorted(told.items()))
