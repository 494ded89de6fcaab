"""Runs watched, there and back; runs changed; runs along which just these sets are told."""

from runclaims.errors import NoNumber, NothingDone, NotReady
from runclaims.fields import field_from, field_of
from runclaims.forms import are_turns_form
from runclaims.graphs import depths_from, turned_round
from runclaims.laps import states_along
from runclaims.moves import ready_turns, state_after, told_in
from runclaims.plain import as_set, frozen
from runclaims.plans import Plan, part_number


class Watch:
    """A run of a SYSTEM, along which one goes there and back."""

    def __init__(self, system):
        self._system = frozen(system)
        self._plan = Plan(self._system)
        self._taken = ()
        self._ahead = ()
        self._states = [self._plan.first]

    @property
    def system(self):
        """The SYSTEM."""
        return self._system

    @property
    def taken(self):
        """The tuple of the TURNS taken."""
        return self._taken

    @property
    def here(self):
        """The STATE now."""
        return self._states[-1]

    @property
    def ahead(self):
        """The tuple of the TURNS taken back and not taken again, the first one to be taken first."""
        return self._ahead

    def __len__(self):
        return len(self._taken)

    def __eq__(self, other):
        return (
            isinstance(other, Watch) and self._system == other._system
            and self._taken == other._taken and self._ahead == other._ahead
        )

    def take(self, turn):
        """Take this TURN."""
        self.go((turn,))

    def go(self, turns):
        """Take several TURNS, all or none."""
        row = frozen(turns)
        states = states_along(self._plan, self._states[-1], row)
        if states is None:
            raise NotReady()
        for turn in row:
            self._ahead = self._ahead[1:] if self._ahead[:1] == (turn,) else ()
        self._taken = self._taken + row
        self._states = self._states + states[1:]

    def back(self):
        """Take back the last TURN."""
        if self._taken == ():
            raise NothingDone()
        self._ahead = self._taken[-1:] + self._ahead
        self._taken = self._taken[:-1]
        self._states = self._states[:-1]

    def again(self):
        """Take the first TURN ahead."""
        if self._ahead == ():
            raise NothingDone()
        self.go(self._ahead[:1])

    def to(self, number):
        """Go back, or again, until so many TURNS are taken."""
        if not 0 <= number <= len(self._taken) + len(self._ahead):
            raise NoNumber(number)
        while len(self._taken) > number:
            self.back()
        while len(self._taken) < number:
            self.again()

    def twin(self):
        """An equal Watch of its own."""
        other = Watch(self._system)
        other.go(self._taken + self._ahead)
        other.to(len(self._taken))
        return other

    def ready(self):
        """The set of the ready TURNS."""
        return tuple(ready_turns(self._plan, self._states[-1]))

    def states(self):
        """The list of the STATES so far."""
        return list(self._states)

    def told(self, heard):
        """The tuple of the sets told at the STATES so far."""
        words = frozen(heard)
        return tuple([told_in(self._plan, words, state) for state in self._states])

    def met(self):
        """The least number of an earlier STATE that is this one; None if there is none."""
        number = self._states.index(self._states[-1])
        return number if number < len(self._taken) else None

    def lap(self):
        """The LAP that goes up to that STATE, and round from there; None if there is none."""
        number = self.met()
        return None if number is None else (self._taken[:number], self._taken[number:])

    def standing(self, part):
        """The set of the paths of the DEEDS whose STEPS begin at the PLACE of this part."""
        number = part_number(self._plan, part)
        chart = self._plan.charts[number]
        place = self._states[-1][0][number]
        return as_set([chart.paths[step] for step in chart.leaving[place]])


def changed(system, turns, number, turn):
    """A pair: the TURNS with this one behind the first so many, and of those left behind it
    the ready ones; the places of those that are not ready then."""
    plan, taken, new = Plan(frozen(system)), frozen(turns), frozen(turn)
    if not 0 <= number <= len(taken):
        raise NoNumber(number)
    states = states_along(plan, plan.first, taken)
    if states is None or new not in ready_turns(plan, states[number]):
        raise NotReady()
    state = state_after(plan, states[number], new)
    found, left = [*taken[:number], new], []
    for at in _without_first(taken, number, sorted(new[::2])):
        if taken[at] in ready_turns(plan, state):
            found.append(taken[at])
            state = state_after(plan, state, taken[at])
        else:
            left.append(at)
    return tuple(found), tuple(left)


def shortest_round(system, turns):
    """The least of the shortest tuples of one or more TURNS that lead from the STATE behind
    turns back to it; None if there is none."""
    plan = Plan(frozen(system))
    states = states_along(plan, plan.first, frozen(turns))
    if states is None:
        raise NotReady()
    field = field_from(plan, states[-1:])
    far = depths_from(turned_round(field.behind), [0])
    least = min([far[goal] for goal in field.behind[0] if goal in far], default=None)
    if least is None:
        return None
    here, found = 0, []
    for depth in range(least, -1, -1):
        turn, here = [(turn, goal) for turn, goal in field.rows[here] if far.get(goal) == depth][0]
        found.append(turn)
    return tuple(found)


def replayed(system, heard, row):
    """The least tuple of TURNS along which just these sets are told; None if there is none."""
    field, sets = field_of(system), frozen(row)
    told = field.told(frozen(heard))
    # For each place, from the last one on, the STATES from which on the rest can be told.
    rest = [{at: True for at, own in enumerate(told) if own == sets[-1]}]
    for wanted in sets[-2::-1]:
        later = rest[-1]
        rest.append({
            at: True for at, own in enumerate(told)
            if own == wanted and any([goal in later for goal in field.behind[at]])
        })
    if 0 not in rest[-1]:
        return None
    here, found = 0, []
    for good in rest[-2::-1]:
        turn, here = [(turn, goal) for turn, goal in field.rows[here] if goal in good][0]
        found.append(turn)
    return tuple(found)


def is_replayed(system, heard, row, thing):
    """Whether thing is a tuple of TURNS along which just these sets are told."""
    plan, words = Plan(frozen(system)), frozen(heard)
    if not are_turns_form(thing):
        return False
    states = states_along(plan, plan.first, thing)
    return states is not None and tuple([told_in(plan, words, state) for state in states]) == frozen(row)


def _without_first(turns, number, parts):
    """The places of TURNS from this number on, but for the first one in which just these
    parts take part."""
    places = list(range(number, len(turns)))
    alike = [at for at in places if sorted(turns[at][::2]) == parts]
    return [at for at in places if alike[:1] != [at]]
