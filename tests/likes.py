"""TOLD ROWS, SOON and STEP FORMULAS, PAIRINGS, FOLLOWINGS, squeezed runs: told as plainly as can be."""

import itertools

from goings import Goings
from helper import Maker
from runclaims.edits import edited
from runclaims.errors import ModelError


class Told:
    """The STATES of a system, what each tells, and those behind each."""

    def __init__(self, system, heard):
        self.system, self.heard = system, heard
        goings = Goings(system)
        self.states = goings.all_states()
        self.first = self.states[0]
        self.told = {state: tuple([word for word, test in heard if goings.test(state, test)]) for state in self.states}
        self.behind = {
            state: sorted({goings.after(state, turn) for turn in goings.ready(state)}) for state in self.states
        }

    def ways(self, many, most=20000):
        """All ways along so many STATES; None if there are too many."""
        ways = [(self.first,)]
        for _ in range(many - 1):
            ways = [way + (goal,) for way in ways for goal in self.behind[way[-1]]]
            if len(ways) > most:
                return None
        return ways

    def rows(self, many, most=20000):
        """The set of the TOLD ROWS of so many sets; None if there are too many."""
        rows = {((self.told[self.first],), self.first)}
        for _ in range(many - 1):
            rows = {(row + (self.told[goal],), goal) for row, state in rows for goal in self.behind[state]}
            if len(rows) > most:
                return None
        return {row for row, _ in rows}

    def has_row(self, row):
        here = {self.first} if row[0] == self.told[self.first] else set()
        for told in row[1:]:
            here = {goal for state in here for goal in self.behind[state] if self.told[goal] == told}
        return here != set()

    def step_true(self, state, formula):
        kind = formula[0]
        if kind == "true":
            return True
        if kind == "word":
            return formula[1] in self.told[state]
        if kind == "not":
            return not self.step_true(state, formula[1])
        if kind == "and":
            return self.step_true(state, formula[1]) and self.step_true(state, formula[2])
        return any([self.step_true(goal, formula[1]) for goal in self.behind[state]])

    def squeezed_ways(self, row):
        """The STATES to which runs lead that tell this row at first, squeezed."""
        here = self.spread({self.first}) if row and row[0] == self.told[self.first] else set()
        for told in row[1:]:
            here = self.spread({goal for state in here for goal in self.behind[state] if self.told[goal] == told})
        return here

    def spread(self, states):
        """These and all that is come to while the same is told."""
        found = list(states)
        for state in found:
            found.extend([goal for goal in self.behind[state] if self.told[goal] == self.told[state] and goal not in found])
        return set(found)

    def tells_squeezed(self, row, ends):
        here = self.squeezed_ways(row)
        if not ends:
            return here != set() or row == ()
        # Whoever may stay among these for as many steps as there are STATES may stay for ever.
        for _ in self.states:
            here = {state for state in here if any([goal in here for goal in self.behind[state]])}
        return here != set()

    def squeezed_rows(self, most):
        """Of rows of at most so many sets those that runs tell at first, and those that they end with."""
        begun, ended = set(), set()
        todo = [(self.told[self.first],)]
        for row in todo:
            begun.add(row)
            if self.tells_squeezed(row, True):
                ended.add(row)
            here = self.squeezed_ways(row)
            ahead = {self.told[goal] for state in here for goal in self.behind[state]} - {row[-1]}
            if len(row) < most:
                todo.extend([row + (told,) for told in sorted(ahead)])
        return begun, ended


def next_depth(formula):
    within = [next_depth(inner) for inner in formula[1:] if isinstance(inner, tuple)]
    return max(within, default=0) + (formula[0] == "next")


def soon_true(formula, row):
    """Whether a SOON FORMULA is true of a row with enough sets."""
    kind = formula[0]
    if kind == "true":
        return True
    if kind == "word":
        return formula[1] in row[0]
    if kind == "not":
        return not soon_true(formula[1], row)
    if kind == "next":
        return soon_true(formula[1], row[1:])
    one, other = soon_true(formula[1], row), soon_true(formula[2], row)
    return one and other if kind == "and" else one or other


def plain_keeps_soon(told, formula):
    rows = told.rows(next_depth(formula) + 1)
    return None if rows is None else all([soon_true(formula, row) for row in rows])


def step_depth(formula):
    within = [step_depth(inner) for inner in formula[1:] if isinstance(inner, tuple)]
    return max(within, default=0) + (formula[0] == "some")


def is_plainly(formula):
    if formula[0] == "not" and formula[1][0] != "word":
        return False
    return all([is_plainly(inner) for inner in formula[1:] if isinstance(inner, tuple)])


def step_formulas(maker, words, depth):
    """A STEP FORMULA with at most so many some, and others, within one another."""
    if depth == 0 or maker.random.random() < 0.2:
        return maker.pick(("true",), ("word", maker.pick(*words)))
    kind = maker.pick("not", "some", "some", "and")
    if kind == "and":
        return (kind, step_formulas(maker, words, depth - 1), step_formulas(maker, words, depth - 1))
    return (kind, step_formulas(maker, words, depth - 1))


def rounds(one, other, both_ways):
    """For each number of rounds the pairs of STATES that are not yet told apart, or of which
    the second one can still follow; the last ones stay so."""
    pairs = {pair for pair in itertools.product(one.states, other.states) if one.told[pair[0]] == other.told[pair[1]]}
    found = [pairs]
    while True:
        kept = set()
        for state, later in found[-1]:
            forth = all([any([(goal, there) in found[-1] for there in other.behind[later]]) for goal in one.behind[state]])
            back = all([any([(goal, there) in found[-1] for goal in one.behind[state]]) for there in other.behind[later]])
            if forth and (back or not both_ways):
                kept.add((state, later))
        if kept == found[-1]:
            return found
        found.append(kept)


def is_matched(one, other, pairs, both_ways):
    """Whether pairs of STATES are a PAIRING, or a FOLLOWING."""
    if (one.first, other.first) not in pairs:
        return False
    for state, later in pairs:
        if state not in one.told or later not in other.told or one.told[state] != other.told[later]:
            return False
        if not all([any([(goal, there) in pairs for there in other.behind[later]]) for goal in one.behind[state]]):
            return False
        if both_ways and not all([any([(goal, there) in pairs for goal in one.behind[state]]) for there in other.behind[later]]):
            return False
    return True


def some_edit(maker, system):
    """An EDIT, often one that is refused."""
    part, block = maker.pick(*system[2])
    names = [row[0] for row in system[0]]
    deed = maker.pick(("pass",), ("when", maker.test(names, [], [], 1)), *[("let", name, maker.value(names, 1)) for name in names])
    path = (maker.random.randint(0, len(block)),)
    if maker.random.random() < 0.4:
        path += (maker.random.randint(0, 1), maker.random.randint(0, 1))
    return maker.pick(
        ("insert", part, path, deed), ("replace", part, path, deed), ("remove", part, path),
        *[("value", row[0], maker.random.randint(0, row[1])) for row in system[0]],
        ("insert", part, path, ("pick", ((deed,), (("pass",),)))),
    )


def near_system(maker, system, most):
    """A system like this one but for an EDIT or two; with at most so many STATES."""
    while True:
        found = system
        for _ in range(maker.random.randint(0, 2)):
            try:
                found = edited(found, some_edit(maker, found))
            except ModelError:
                pass
        if len(Goings(found).all_states(most + 1)) <= most:
            return found


def pairs_of_systems(seed, many, most, words="pq"):
    """Tuples of a maker and two systems with HEARD words, often much alike."""
    maker = Maker(seed)
    for number in range(many):
        one = maker.busy(most) if number % 3 == 0 else maker.small(most, 2, parts=maker.random.randint(1, 2))
        ones = maker.heard(one, words)
        if number % 4:
            other, others = near_system(maker, one, most), ones
        else:
            other = maker.small(most, 2, parts=maker.random.randint(1, 2))
            others = maker.heard(other, words)
        try:
            yield maker, one, ones, other, others, Told(one, ones), Told(other, others)
        except (KeyError, ValueError):
            # A TEST of the HEARD words may name a label that is gone.
            continue
