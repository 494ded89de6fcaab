"""SYSTEMS: what they are, what stands in them, and how they are made from others."""

from runclaims.errors import Known, NoCell, NoLabel, NoPart, NoQueue, Unfit
from runclaims.plain import as_set, frozen, is_name
from runclaims.renames import by_name, changed_system
from runclaims.shapes import is_heard_in, is_test_in, is_value_in, is_whole, scope_of
from runclaims.walks import (
    asked_cells, asked_pairs, cells_of_test, cells_of_value, deeds_in, labels_in,
    labels_of_test, let_cells, named_queues, queues_of_test,
)


def is_system(thing):
    """Whether thing is a SYSTEM."""
    return is_whole(thing)


def is_value(system, thing):
    """Whether thing is a VALUE whose cells the SYSTEM has."""
    return is_value_in(scope_of(frozen(system)), thing)


def is_test(system, thing):
    """Whether thing is a TEST whose cells, queues and labels the SYSTEM has."""
    return is_test_in(scope_of(frozen(system)), thing)


def is_heard(system, thing):
    """Whether thing are HEARD words with TESTS of the SYSTEM."""
    return is_heard_in(scope_of(frozen(system)), thing)


def is_block(system, part, thing):
    """Whether the SYSTEM is one with thing as the block of this part."""
    return is_whole(_with_own_block(frozen(system), part, thing))


def cell_names(system):
    """The set of the cells."""
    return tuple([row[0] for row in frozen(system)[0]])


def queue_names(system):
    """The set of the queues."""
    return tuple([row[0] for row in frozen(system)[1]])


def part_names(system):
    """The set of the parts."""
    return tuple([row[0] for row in frozen(system)[2]])


def cell_row(system, cell):
    """The triple (cell, top, value)."""
    for row in frozen(system)[0]:
        if row[0] == cell:
            return row
    raise NoCell(cell)


def queue_row(system, queue):
    """The triple (queue, room, top)."""
    for row in frozen(system)[1]:
        if row[0] == queue:
            return row
    raise NoQueue(queue)


def block_of(system, part):
    """The block of this part."""
    for name, block in frozen(system)[2]:
        if name == part:
            return block
    raise NoPart(part)


def labels_of(system, part):
    """The set of the labels of this part."""
    return as_set(labels_in(block_of(system, part)))


def fitted(number, top):
    """The number as a cell or a queue with this top has it."""
    return number % (top + 1)


def deeds_of(system, part):
    """All DEEDS of this part, each ahead of those within it."""
    return tuple(deeds_in(block_of(system, part)))


def value_cells(one):
    """The set of the cells in a VALUE."""
    return as_set(cells_of_value(frozen(one)))


def test_cells(test):
    """The set of the cells that a TEST asks for."""
    return as_set(cells_of_test(frozen(test)))


def test_queues(test):
    """The set of the queues that a TEST asks for."""
    return as_set(queues_of_test(frozen(test)))


def test_labels(test):
    """The set of the pairs (part, label) that a TEST asks for."""
    return as_set(labels_of_test(frozen(test)))


def reads(system, part):
    """The set of the cells that the VALUES and TESTS of this part ask for."""
    return as_set([cell for deed in deeds_of(system, part) for cell in asked_cells(deed)])


def lets(system, part):
    """The set of the cells that this part lets or gets into."""
    return as_set([cell for deed in deeds_of(system, part) for cell in let_cells(deed)])


def puts_into(system, part):
    """The set of the queues that this part puts into."""
    return as_set([deed[1] for deed in deeds_of(system, part) if deed[0] == "put"])


def gets_from(system, part):
    """The set of the queues that this part gets from."""
    return as_set([deed[1] for deed in deeds_of(system, part) if deed[0] == "get"])


def asks_labels(system, part):
    """The set of the pairs (part, label) that the TESTS of this part ask for."""
    return as_set([pair for deed in deeds_of(system, part) for pair in asked_pairs(deed)])


def shared_cells(system):
    """The set of the cells that one part changes and another one names."""
    changed = {part: lets(system, part) for part in part_names(system)}
    named = {part: changed[part] + reads(system, part) for part in changed}
    found = []
    for part in changed:
        for other in named:
            if other != part:
                found.extend([cell for cell in changed[part] if cell in named[other]])
    return as_set(found)


def spare_names(system):
    """The set of the cells and queues that no DEED names."""
    named = []
    for part in part_names(system):
        for deed in deeds_of(system, part):
            named.extend(asked_cells(deed) + let_cells(deed) + named_queues(deed))
    names = cell_names(system) + queue_names(system)
    return as_set([name for name in names if name not in named])


def partners(system, part):
    """The set of the other parts with which this part may hand over."""
    puts, gets = puts_into(system, part), gets_from(system, part)
    handed = [queue for queue, room, top in frozen(system)[1] if room == 0]
    found = []
    for other in part_names(system):
        given = [queue for queue in puts if queue in gets_from(system, other)]
        taken = [queue for queue in gets if queue in puts_into(system, other)]
        if other != part and any([queue in handed for queue in given + taken]):
            found.append(other)
    return as_set(found)


def with_cell(system, name, top, number):
    """The SYSTEM with one more cell."""
    cells, queues, parts = _where_new(system, name)
    return _fit((by_name([*cells, (name, top, number)]), queues, parts))


def with_queue(system, name, room, top):
    """The SYSTEM with one more queue."""
    cells, queues, parts = _where_new(system, name)
    return _fit((cells, by_name([*queues, (name, room, top)]), parts))


def with_part(system, name, block):
    """The SYSTEM with one more part."""
    cells, queues, parts = _where_new(system, name)
    return _fit((cells, queues, by_name([*parts, (name, frozen(block))])))


def with_block(system, part, block):
    """The SYSTEM with this block in the place of the part's own."""
    return _fit(_with_own_block(frozen(system), part, frozen(block)))


def with_first(system, cell, number):
    """The SYSTEM with this first value of the cell."""
    cells, queues, parts = frozen(system)
    row = (cell, cell_row(system, cell)[1], number)
    return _fit((_with_row(cells, row), queues, parts))


def with_room(system, queue, room):
    """The SYSTEM with this room of the queue."""
    cells, queues, parts = frozen(system)
    row = (queue, room, queue_row(system, queue)[2])
    return _fit((cells, _with_row(queues, row), parts))


def without(system, name):
    """The SYSTEM without the cell, queue or part of this name."""
    rest = frozen(system)
    if name not in _names(rest):
        raise NoPart(name)
    cells, queues, parts = [
        tuple([row for row in rows if row[0] != name]) for rows in rest
    ]
    return _fit((cells, queues, parts))


def renamed(system, old, new):
    """The SYSTEM in which the cell, queue or part called old is called new."""
    given = frozen(system)
    names = _names(given)
    if old not in names:
        raise NoPart(old)
    if new in names:
        raise Known(new)
    if not is_name(new):
        raise Unfit()
    # Only one of the three is there: names are unlike, whatever they name.
    change = {(kind, old): new for kind in ("cell", "queue", "part")}
    return changed_system(change, given)


def relabelled(system, part, label, new):
    """The SYSTEM in which this label of this part is called new."""
    labels = labels_of(system, part)
    if label not in labels:
        raise NoLabel(label)
    if new in labels or not is_name(new):
        raise Unfit()
    return changed_system({("label", part, label): new}, frozen(system))


def beside(system, other):
    """The SYSTEM with the cells, queues and parts of both."""
    one, another = frozen(system), frozen(other)
    names = _names(another)
    for name in sorted(_names(one)):
        if name in names:
            raise Known(name)
    cells, queues, parts = [by_name(one[at] + another[at]) for at in range(3)]
    return (cells, queues, parts)


def _names(system):
    """The names of all cells, queues and parts."""
    return [row[0] for rows in system for row in rows]


def _fit(system):
    """The SYSTEM itself; raises Unfit if it is none."""
    if not is_whole(system):
        raise Unfit()
    return system


def _where_new(system, name):
    """The SYSTEM, in which nobody has this name yet."""
    given = frozen(system)
    if name in _names(given):
        raise Known(name)
    return given


def _with_row(rows, new):
    """The rows with a new one in the place of that with the same name."""
    return tuple([new if row[0] == new[0] else row for row in rows])


def _with_own_block(system, part, block):
    """The SYSTEM, or what is none, with this block of the part."""
    cells, queues, parts = system
    if part not in part_names(system):
        raise NoPart(part)
    return (cells, queues, _with_row(parts, (part, block)))
