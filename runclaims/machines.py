"""MACHINES: what they take, and papers for that."""

from runclaims.errors import NoNumber
from runclaims.graphs import (
    circle_in, come_from, components, explored, fewest_in_lasso, full_components, goals_of,
    goes_on, is_full, lasso, mask_of, way_to,
)
from runclaims.plain import (
    as_set, frozen, is_ascending, is_name_set, is_number, is_number_from, is_row, least_bit,
)
from runclaims.works import (
    lean_works, live_in, machine_of, words_among, words_of_moves, works_of,
)


def is_machine(thing):
    """Whether thing is a MACHINE."""
    if not is_row(thing, 4):
        return False
    many, starts, moves, marks = thing
    if not is_number(many) or many < 0 or not _is_standing_set(starts, many):
        return False
    if type(moves) is not tuple or not all([_is_move(row, many) for row in moves]):
        return False
    if type(marks) is not tuple or not is_ascending(moves):
        return False
    return all([_is_standing_set(row, many) for row in marks])


def words_read(machine):
    """The set of the words in yes and no of its moves."""
    return words_of_moves(frozen(machine)[2])


def moved_to(machine, standing, told):
    """The set of the goals of the moves from this standing that can be made on told."""
    works = works_of(frozen(machine))
    if not 0 <= standing < len(works.rows):
        raise NoNumber(standing)
    return works.goals_on(standing, works.bits_of(told))


def standings_behind(machine, rows):
    """The set of the standings to which moves made on these sets lead from starts."""
    works = works_of(frozen(machine))
    found = as_set(works.starts)
    for told in rows:
        bits = works.bits_of(told)
        found = as_set([goal for node in found for goal in works.goals_on(node, bits)])
    return found


def takes(machine, loop):
    """Whether it takes the LOOP."""
    return path_along(machine, loop) is not None


def path_along(machine, loop):
    """A PATH along the LOOP that meets each set of marks in again; None if it is not taken."""
    works = works_of(frozen(machine))
    front, circle = frozen(loop)
    bits = [works.bits_of(told) for told in front + circle]

    def rows_of(pair):
        place, standing = pair
        ahead = place + 1 if place + 1 < len(bits) else len(front)
        return [(None, (ahead, goal)) for goal in works.goals_on(standing, bits[place])]

    pairs, rows = explored([(0, standing) for standing in works.starts], rows_of)
    behind = goals_of(rows)
    masks = [works.masks[standing] for place, standing in pairs]
    nodes = list(range(len(pairs)))
    for row in full_components(behind, nodes, masks, works.full):
        # Only the way to the beginning of the round has as many standings as it must.
        goals = {node: True for node in row if pairs[node][0] == len(front)}
        allowed = {node: True for node in nodes}
        way = way_to(behind, allowed, list(range(len(works.starts))), goals)
        again = circle_in(behind, row, way[-1], masks, works.full)
        return _standings_of(pairs, way[:-1]), _standings_of(pairs, again)
    return None


def is_path_along(machine, loop, thing):
    """Whether thing is a PATH along the LOOP that meets each set of marks in again."""
    works = works_of(frozen(machine))
    front, circle = frozen(loop)
    if not is_row(thing, 2) or not _are_rounds(thing, len(front), len(circle)):
        return False
    first, again = thing
    row, last = first + again, len(works.rows) - 1
    if not all([is_number_from(standing, 0, last) for standing in row]):
        return False
    if row[0] not in works.starts or mask_of(works.masks, again) != works.full:
        return False
    sets = front + circle * (len(row) // len(circle))
    for at, standing in enumerate(row):
        goal = row[at + 1] if at + 1 < len(row) else again[0]
        if goal not in works.goals_on(standing, works.bits_of(sets[at])):
            return False
    return True


def takes_any(machine):
    """Whether it takes some LOOP."""
    return some_loop(machine) is not None


def some_loop(machine):
    """A LOOP that it takes; None if there is none."""
    return loop_of(works_of(frozen(machine)))


def fewest_standings(machine):
    """How few standings a PATH along a LOOP that it takes has; None if it takes none."""
    works = works_of(frozen(machine))
    return fewest_in_lasso(works.behind, works.starts, works.masks, works.full)


def numbers_for(machine):
    """NUMBERS for it; None if it takes some LOOP."""
    works = works_of(frozen(machine))
    numbers, sets = [None for _ in works.rows], []
    for row in components(works.behind, come_from(works.behind, works.starts)):
        if is_full(works.behind, row, works.masks, works.full):
            return None
        for standing in row:
            numbers[standing] = len(sets)
        lacking = None
        if goes_on(works.behind, row):
            lacking = least_bit(works.full & ~mask_of(works.masks, row))
        sets.append(lacking)
    return tuple(numbers), tuple(sets)


def is_numbers_for(machine, thing):
    """Whether thing are NUMBERS for it."""
    works = works_of(frozen(machine))
    if not is_row(thing, 2) or type(thing[1]) is not tuple or not is_row(thing[0], len(works.rows)):
        return False
    numbers, sets = thing
    given = [number for number in numbers if number is not None]
    if not all([is_number(number) and number >= 0 for number in given]):
        return False
    if len(sets) != max(given, default=-1) + 1:
        return False
    if not all([place is None or is_number_from(place, 0, works.sets - 1) for place in sets]):
        return False
    if any([numbers[standing] is None for standing in works.starts]):
        return False
    return all([_falls_on(works, numbers, sets, node) for node in range(len(numbers))])


def live_standings(machine):
    """The set of those that lie on a ROW by which some LOOP is taken."""
    return tuple(live_in(works_of(frozen(machine))))


def lean(machine):
    """The MACHINE of the live standings alone."""
    return machine_of(lean_works(works_of(frozen(machine))))


def loop_of(works):
    """A LOOP that Works take; None if there is none."""
    found = lasso(works.behind, works.starts, works.masks, works.full)
    if found is None:
        return None
    first, again = found
    row = first + again + again[:1]
    told = [_told_between(works, row[at], row[at + 1]) for at in range(len(row) - 1)]
    return tuple(told[:len(first)]), tuple(told[len(first):])


def _told_between(works, standing, goal):
    """A set of words on which a move from a standing to this goal can be made."""
    for (yes, _), there in works.rows[standing]:
        if there == goal:
            return words_among(works.words, yes)
    return None


def _is_standing_set(thing, many):
    """Whether thing is a set of standings of so many."""
    if type(thing) is not tuple:
        return False
    return all([is_number_from(node, 0, many - 1) for node in thing]) and is_ascending(thing)


def _is_move(thing, many):
    """Whether thing is a move between standings of so many."""
    if not is_row(thing, 4) or not (is_name_set(thing[1]) and is_name_set(thing[2])):
        return False
    return is_number_from(thing[0], 0, many - 1) and is_number_from(thing[3], 0, many - 1)


def _are_rounds(thing, ahead, many):
    """Whether thing are tuples as long as a front and a round of so many places ask for."""
    first, again = thing
    if type(first) is not tuple or type(again) is not tuple or len(again) == 0:
        return False
    return len(first) >= ahead and (len(first) - ahead) % many == 0 and len(again) % many == 0


def _standings_of(pairs, nodes):
    """The standings of these nodes, each a pair of a place and a standing."""
    return tuple([pairs[node][1] for node in nodes])


def _falls_on(works, numbers, sets, standing):
    """Whether numbers do not grow behind a standing, and fall if it is of the set told."""
    own = numbers[standing]
    if own is None:
        return True
    for goal in works.behind[standing]:
        if numbers[goal] is None or numbers[goal] > own:
            return False
        if numbers[goal] == own:
            if sets[own] is None or works.masks[standing] & (1 << sets[own]):
                return False
    return True
