"""What can be taken at a joint state and what stands behind it, told as plainly as can be."""

from spots import Spots


class Goings:
    def __init__(self, system):
        self.cells, self.queues, self.parts = system
        self.spots = [Spots(block) for _, block in self.parts]
        self.steps = [[step for step, _ in spots.steps()] for spots in self.spots]
        self.labels = [spots.label_places() for spots in self.spots]

    def begin(self):
        return (
            (0,) * len(self.parts), tuple([row[2] for row in self.cells]),
            ((),) * len(self.queues), -1,
        )

    def number(self, rows, name):
        return [row[0] for row in rows].index(name)

    def value(self, state, value):
        if value[0] == "number":
            return value[1]
        if value[0] == "cell":
            return state[1][self.number(self.cells, value[1])]
        one, other = [self.value(state, inner) for inner in value[1:]]
        return {"sum": one + other, "gap": one - other, "times": one * other}[value[0]]

    def test(self, state, test):
        word, inner = test[0], test[1:]
        if word in ("same", "less"):
            one, other = [self.value(state, value) for value in inner]
            return one == other if word == "same" else one < other
        if word in ("empty", "full"):
            at = self.number(self.queues, inner[0])
            return len(state[2][at]) == (0 if word == "empty" else self.queues[at][1])
        if word == "stands":
            part = self.number(self.parts, inner[0])
            return state[0][part] == self.labels[part][inner[1]]
        told = [self.test(state, other) for other in inner]
        return {"not": not told[0], "and": all(told), "or": any(told)}[word]

    def room(self, deed):
        return self.queues[self.number(self.queues, deed[1])][1]

    def can(self, state, part, step):
        place, deed, _, _ = self.steps[part][step]
        if state[0][part] != place:
            return False
        if deed[0] in ("pass", "let", "check"):
            return True
        if deed[0] == "when":
            return self.test(state, deed[1])
        if deed[0] == "else":
            others = [at for at, row in enumerate(self.steps[part]) if row[0] == place and at != step]
            return not any([self.can(state, part, at) for at in others])
        if self.room(deed) == 0:
            wanted = "get" if deed[0] == "put" else "put"
            return any([
                row[0] == state[0][other] and row[1][:2] == (wanted, deed[1])
                for other, rows in enumerate(self.steps) if other != part for row in rows
            ])
        lies = len(state[2][self.number(self.queues, deed[1])])
        return lies < self.room(deed) if deed[0] == "put" else lies > 0

    def all_turns(self):
        """All that could be TURNS, whatever the state is; the idle one apart."""
        steps = [(part, at) for part, rows in enumerate(self.steps) for at in range(len(rows))]
        for one in steps:
            deed = self.steps[one[0]][one[1]][1]
            if deed[0] not in ("put", "get") or self.room(deed) > 0:
                yield one
            elif deed[0] == "put":
                for other in steps:
                    taken = self.steps[other[0]][other[1]][1]
                    if other[0] != one[0] and taken[:2] == ("get", deed[1]):
                        yield one + other

    def can_turn(self, state, turn):
        pairs = [turn[:2], turn[2:]][:len(turn) // 2]
        return all([self.can(state, *pair) for pair in pairs])

    def ready(self, state):
        nobody = not any([
            self.can(state, part, at) for part, rows in enumerate(self.steps) for at in range(len(rows))
        ])
        turns = [turn for turn in self.all_turns() if self.can_turn(state, turn)] + [()] * nobody
        if state[3] != -1:
            turns = [turn for turn in turns if state[3] in turn[::2]]
        return tuple(sorted(turns))

    def after(self, state, turn):
        if turn == ():
            return state
        places, values, contents, _ = [list(row) if isinstance(row, tuple) else row for row in state]
        pairs = [turn[:2], turn[2:]][:len(turn) // 2]
        rows = [self.steps[part][step] for part, step in pairs]
        for (part, _), row in zip(pairs, rows):
            places[part] = row[2]
        deed = rows[0][1]
        if deed[0] == "let":
            self.hold(values, deed[1], self.value(state, deed[2]))
        if deed[0] == "put":
            at = self.number(self.queues, deed[1])
            put = self.value(state, deed[2]) % (self.queues[at][2] + 1)
            if len(turn) == 4:
                self.hold(values, rows[1][1][2], put)
            else:
                contents[at] = contents[at] + (put,)
        if deed[0] == "get":
            at = self.number(self.queues, deed[1])
            self.hold(values, deed[2], contents[at][0])
            contents[at] = contents[at][1:]
        there = (tuple(places), tuple(values), tuple(contents))
        holders = [part for (part, _), row in zip(pairs, rows) if row[3]]
        if not holders or not self.has_turn((*there, -1), holders[0]):
            return (*there, -1)
        return (*there, holders[0])

    def hold(self, values, cell, number):
        at = self.number(self.cells, cell)
        values[at] = number % (self.cells[at][1] + 1)

    def has_turn(self, state, part):
        return any([part in turn[::2] and self.can_turn(state, turn) for turn in self.all_turns()])

    def all_states(self, most=10 ** 9):
        """The STATES come to, the nearest ahead; no more once there are so many."""
        found = [self.begin()]
        for state in found:
            for turn in self.ready(state):
                there = self.after(state, turn)
                if there not in found:
                    found.append(there)
            if len(found) > most:
                break
        return found
