"""SYSTEMS changed by EDITS, and what is told alike when squeezed."""

from runclaims.charts import Chart
from runclaims.errors import ModelError, Unfit
from runclaims.fields import field_of
from runclaims.moves import worth
from runclaims.paths import is_edit_form, rebuilt, with_item, with_more, without_item
from runclaims.plain import frozen, is_row
from runclaims.systems import (
    block_of, cell_names, cell_row, fitted, is_system, queue_names, queue_row, relabelled,
    renamed, with_block, with_cell, with_first, with_part, with_queue, with_room, without,
)
from runclaims.tables import deed_with
from runclaims.tellings import Tellings, first_apart, is_told_form


def edited(system, edit):
    """The SYSTEM behind an EDIT."""
    given, row = frozen(system), frozen(edit)
    kind = row[0]
    if kind in ("insert", "remove", "replace"):
        return _with_deeds(given, row)
    if kind == "top":
        return _with_top(given, row[1], row[2])
    if kind == "value":
        return with_first(given, row[1], row[2])
    if kind == "room":
        return with_room(given, row[1], row[2])
    if kind == "cell":
        return with_cell(given, row[1], row[2], row[3])
    if kind == "queue":
        return with_queue(given, row[1], row[2], row[3])
    if kind == "part":
        return with_part(given, row[1], row[2])
    if kind == "drop":
        return without(given, row[1])
    if kind == "name":
        return renamed(given, row[1], row[2])
    return relabelled(given, row[1], row[2], row[3])


def undone_by(system, edit):
    """The EDIT that leads back from the SYSTEM behind this one."""
    given, row = frozen(system), frozen(edit)
    edited(given, row)
    kind, name = row[0], row[1]
    if kind == "insert":
        return ("remove", name, row[2])
    if kind == "remove":
        return ("insert", name, row[2], deed_with(given, name, row[2]))
    if kind == "replace":
        return (kind, name, row[2], deed_with(given, name, row[2]))
    if kind == "top":
        return (kind, name, cell_row(given, name)[1])
    if kind == "value":
        return (kind, name, cell_row(given, name)[2])
    if kind == "room":
        return (kind, name, queue_row(given, name)[1])
    if kind in ("cell", "queue", "part"):
        return ("drop", name)
    if kind == "drop":
        return _put_back(given, name)
    if kind == "name":
        return (kind, row[2], name)
    return (kind, name, row[3], row[2])


def edits_commute(system, edit, later):
    """Whether both orders can be done, and lead to one SYSTEM."""
    one = _edited_by_all(system, (edit, later))
    return one is not None and one == _edited_by_all(system, (later, edit))


def can_edit(system, thing):
    """Whether thing is an EDIT that is not refused."""
    return is_edit_form(thing) and _edited_by_all(system, (thing,)) is not None


def paths_of(system, part):
    """The ascending list of the paths of the DEEDS of a part."""
    return sorted(Chart(block_of(system, part)).written)


def never_full(system):
    """The set of the queues of room from 1 in which never as much as their room lies."""
    field = field_of(system)
    rooms = field.plan.rooms
    found = []
    for at, name in enumerate(queue_names(system)):
        most = max([len(state[2][at]) for state in field.nodes])
        if most < rooms[at]:
            found.append(name)
    return tuple(found)


def never_turned(system):
    """The set of the cells for which each number that a let or a get brings is one that
    they can hold."""
    field = field_of(system)
    turned = {}
    for state, row in zip(field.nodes, field.rows):
        for turn, _ in row:
            brought = _brought(field.plan, state, turn)
            if brought is not None:
                cell, number = brought
                if not 0 <= number <= field.plan.cell_tops[cell]:
                    turned[cell] = True
    return tuple([name for at, name in enumerate(cell_names(system)) if at not in turned])


def squeezed_alike(system, other, heard):
    """Whether what is told along the runs of both is the same, squeezed."""
    return squeezed_apart(system, other, heard) is None


def squeezed_apart(system, other, heard):
    """A pair (row, ends) that runs of just one of both tell, squeezed; None if there is none."""
    return first_apart(_squeezed_tellings(system, heard), _squeezed_tellings(other, heard))


def is_squeezed_apart(system, other, heard, thing):
    """Whether thing is such a pair."""
    if not is_row(thing, 2) or not is_told_form(thing[0]) or type(thing[1]) is not bool:
        return False
    row, ends = thing
    if any([row[at] == row[at + 1] for at in range(len(row) - 1)]):
        return False
    tell = [_tells(_squeezed_tellings(own, heard), row, ends) for own in (system, other)]
    return tell[0] != tell[1]


def _with_deeds(system, edit):
    """The SYSTEM with one DEED more or less, or another one."""
    kind, part, path = edit[:3]

    def change(block, at):
        if kind == "remove":
            return without_item(block, at)
        if kind == "insert":
            return with_more(block, at, edit[3])
        return with_item(block, at, edit[3])

    block = rebuilt(block_of(system, part), path, change)
    if block is None:
        raise Unfit()
    return with_block(system, part, block)


def _with_top(system, cell, top):
    """The SYSTEM with another top of a cell."""
    cells, queues, parts = system
    new = (cell, top, cell_row(system, cell)[2])
    changed = (tuple([new if row[0] == cell else row for row in cells]), queues, parts)
    if not is_system(changed):
        raise Unfit()
    return changed


def _put_back(system, name):
    """The EDIT that makes anew the cell, queue or part of this name, as the SYSTEM has it."""
    if name in cell_names(system):
        return ("cell", *cell_row(system, name))
    if name in queue_names(system):
        return ("queue", *queue_row(system, name))
    return ("part", name, block_of(system, name))


def _edited_by_all(system, edits):
    """The SYSTEM behind all of these EDITS; None if one is refused."""
    found = system
    try:
        for edit in edits:
            found = edited(found, edit)
    except ModelError:
        return None
    return found


def _brought(plan, state, turn):
    """The number of the cell that a TURN lets or gets into, and what is brought there as it
    comes; None if there is none."""
    if turn == ():
        return None
    deed = plan.deed(turn[0], turn[1])
    if deed[0] == "let":
        return plan.cell_at[deed[1]], worth(plan, state, deed[2])
    if deed[0] == "get":
        return plan.cell_at[deed[2]], state[2][plan.queue_at[deed[1]]][0]
    if len(turn) == 2:
        return None
    number = fitted(worth(plan, state, deed[2]), plan.queue_tops[plan.queue_at[deed[1]]])
    return plan.cell_at[plan.deed(turn[2], turn[3])[2]], number


def _squeezed_tellings(system, heard):
    """What is told along the runs of a SYSTEM, squeezed."""
    return Tellings(field_of(system), frozen(heard), True)


def _tells(tellings, row, ends):
    """Whether runs tell a row at first, or, if ends, nothing but it."""
    bits = tellings.behind_row(row)
    return bits is not None and (not ends or tellings.rests(bits))
