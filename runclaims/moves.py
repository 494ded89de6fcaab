"""What can be taken at a joint state, what is ready, and what stands behind it.

Parts are told by their numbers; a state is a tuple (places, values, contents,
holder), of the SYSTEM of the plan.
"""

from runclaims.systems import fitted


def worth(plan, state, value):
    """What a VALUE is."""
    if value[0] == "number":
        return value[1]
    if value[0] == "cell":
        return state[1][plan.cell_at[value[1]]]
    one, other = worth(plan, state, value[1]), worth(plan, state, value[2])
    if value[0] == "sum":
        return one + other
    if value[0] == "gap":
        return one - other
    return one * other


def holds(plan, state, test):
    """Whether a TEST is so."""
    kind = test[0]
    if kind == "not":
        return not holds(plan, state, test[1])
    if kind == "and":
        return holds(plan, state, test[1]) and holds(plan, state, test[2])
    if kind == "or":
        return holds(plan, state, test[1]) or holds(plan, state, test[2])
    if kind == "same":
        return worth(plan, state, test[1]) == worth(plan, state, test[2])
    if kind == "less":
        return worth(plan, state, test[1]) < worth(plan, state, test[2])
    if kind == "stands":
        part = plan.part_at[test[1]]
        return state[0][part] == plan.charts[part].label_places[test[2]]
    queue = plan.queue_at[test[1]]
    lying = len(state[2][queue])
    return lying == 0 if kind == "empty" else lying == plan.rooms[queue]


def is_handed(plan, deed):
    """Whether a deed puts into a queue of room 0, or gets from one."""
    return deed[0] in ("put", "get") and plan.rooms[plan.queue_at[deed[1]]] == 0


def meeting(plan, state, part, deed):
    """The pairs (part, step) of others that stand where they do the other half of a hand-over."""
    kind = "get" if deed[0] == "put" else "put"
    found = []
    for other, chart in enumerate(plan.charts):
        if other != part:
            for number in chart.leaving[state[0][other]]:
                if chart.steps[number][1][:2] == (kind, deed[1]):
                    found.append((other, number))
    return found


def is_open(plan, state, part, deed):
    """Whether a deed at the place of the part can be done, but for else."""
    kind = deed[0]
    if kind == "when":
        return holds(plan, state, deed[1])
    if is_handed(plan, deed):
        return meeting(plan, state, part, deed) != []
    if kind == "put":
        queue = plan.queue_at[deed[1]]
        return len(state[2][queue]) < plan.rooms[queue]
    if kind == "get":
        return state[2][plan.queue_at[deed[1]]] != ()
    return kind != "else"


def open_steps(plan, state, part):
    """The numbers of the STEPS of a part that can be taken, ascending."""
    here = plan.charts[part].leaving[state[0][part]]
    found = [at for at in here if is_open(plan, state, part, plan.deed(part, at))]
    if found:
        return found
    return [at for at in here if plan.deed(part, at) == ("else",)]


def turns_of(plan, state, part, number):
    """The TURNS of a STEP that can be taken; a hand-over is told by the STEP that puts."""
    deed = plan.deed(part, number)
    if not is_handed(plan, deed):
        return [(part, number)]
    if deed[0] == "get":
        return []
    return [(part, number, *pair) for pair in meeting(plan, state, part, deed)]


def open_turns(plan, state):
    """The TURNS that can be taken, ascending, whoever holds."""
    found = []
    for part in range(len(plan.charts)):
        for number in open_steps(plan, state, part):
            found.extend(turns_of(plan, state, part, number))
    if not found:
        return [()]
    return sorted(found)


def ready_turns(plan, state):
    """The ready TURNS, ascending."""
    turns = open_turns(plan, state)
    if state[3] == -1:
        return turns
    return [turn for turn in turns if state[3] in turn[::2]]


def pairs_in(turn):
    """The pairs (part, step) of a TURN, of a hand-over that of the giver first."""
    return [turn[at:at + 2] for at in range(0, len(turn), 2)]


def state_after(plan, state, turn):
    """The joint state behind a ready TURN."""
    if turn == ():
        return state
    places = list(state[0])
    for part, number in pairs_in(turn):
        places[part] = plan.charts[part].steps[number][2]
    values, contents = lying_after(plan, state, turn)
    there = (tuple(places), values, contents, -1)
    for part, number in pairs_in(turn):
        if plan.charts[part].steps[number][3]:
            # Who can't go on would hold up all others for ever.
            holder = part if open_steps(plan, there, part) else -1
            return (there[0], values, contents, holder)
    return there


def lying_after(plan, state, turn):
    """What the cells hold and what lies in the queues behind a ready TURN."""
    values, contents = list(state[1]), list(state[2])
    deed = plan.deed(turn[0], turn[1])
    if deed[0] == "let":
        cell = plan.cell_at[deed[1]]
        values[cell] = fitted(worth(plan, state, deed[2]), plan.cell_tops[cell])
    elif deed[0] == "put":
        queue = plan.queue_at[deed[1]]
        number = fitted(worth(plan, state, deed[2]), plan.queue_tops[queue])
        if len(turn) == 4:
            cell = plan.cell_at[plan.deed(turn[2], turn[3])[2]]
            values[cell] = fitted(number, plan.cell_tops[cell])
        else:
            contents[queue] = contents[queue] + (number,)
    elif deed[0] == "get":
        queue, cell = plan.queue_at[deed[1]], plan.cell_at[deed[2]]
        values[cell] = fitted(contents[queue][0], plan.cell_tops[cell])
        contents[queue] = contents[queue][1:]
    return tuple(values), tuple(contents)


def breaks_check(plan, state, turn):
    """Whether a ready TURN breaks a check."""
    if len(turn) != 2:
        return False
    deed = plan.deed(turn[0], turn[1])
    return deed[0] == "check" and not holds(plan, state, deed[1])


def told_in(plan, heard, state):
    """The set of the words that are told at a joint state."""
    return tuple([word for word, test in heard if holds(plan, state, test)])
