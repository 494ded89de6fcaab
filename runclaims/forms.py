"""Whether any value has the form of a STATE, a TURN, a pair of tuples of TURNS."""

from runclaims.plain import is_number, is_number_from, is_row


def is_state_form(plan, thing):
    """Whether thing is a STATE, come to or not."""
    if not is_row(thing, 4):
        return False
    places, values, contents, holder = thing
    ends = [chart.end for chart in plan.charts]
    if not (_are_numbers(places, ends) and _are_numbers(values, plan.cell_tops)):
        return False
    if not is_row(contents, len(plan.rooms)):
        return False
    for lies, room, top in zip(contents, plan.rooms, plan.queue_tops):
        if type(lies) is not tuple or len(lies) > room:
            return False
        if not _are_numbers(lies, [top for _ in lies]):
            return False
    return is_number_from(holder, -1, len(plan.charts) - 1)


def is_turn_form(thing):
    """Whether thing is a TURN by its form."""
    if type(thing) is not tuple or len(thing) not in (0, 2, 4):
        return False
    return all([is_number(number) for number in thing])


def are_turns_form(thing):
    """Whether thing is a tuple of TURNS by their form."""
    return type(thing) is tuple and all([is_turn_form(turn) for turn in thing])


def is_lap_form(thing):
    """Whether thing is a pair of tuples of TURNS by their form, the second one not ()."""
    if not is_row(thing, 2) or not are_turns_form(thing[0]):
        return False
    return are_turns_form(thing[1]) and len(thing[1]) > 0


def _are_numbers(thing, tops):
    """Whether thing is a tuple of numbers, each from 0 to its top."""
    if not is_row(thing, len(tops)):
        return False
    return all([is_number_from(number, 0, top) for number, top in zip(thing, tops)])
