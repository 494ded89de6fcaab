"""MACHINES made ready for going along them.

Words are told by bits, in the order of the words of the Works, and so are the sets
of marks of a standing.
"""

from runclaims.graphs import explored, goals_of, live_nodes
from runclaims.plain import as_set


class Works:
    """A MACHINE with its moves that can be made.

    words: the words that are told by bits; starts: the standings to begin with;
    rows: for each standing the moves from it, pairs ((yes, no), goal); behind: for
    each one the goals; masks: for each one the bits of the sets of marks in which
    it is; sets: how many of these there are; full: the bits of all of them.
    """

    def __init__(self, words, starts, rows, masks, sets):
        self.words = words
        self.starts = starts
        self.rows = rows
        self.behind = goals_of(rows)
        self.masks = masks
        self.sets = sets
        self.full = (1 << sets) - 1
        self.known = {}

    def bits_of(self, told):
        """The bits of a set of words, of which others than its own don't matter."""
        return bits_among(self.words, told)

    def goals_on(self, standing, bits):
        """The goals of the moves from a standing that can be made on this."""
        key = (standing, bits)
        if key not in self.known:
            self.known[key] = as_set([
                goal for (yes, no), goal in self.rows[standing]
                if bits & yes == yes and bits & no == 0
            ])
        return self.known[key]


def bits_among(words, told):
    """The bits of those words that are told."""
    return sum([1 << at for at, word in enumerate(words) if word in told])


def words_among(words, bits):
    """The words with these bits."""
    return tuple([word for at, word in enumerate(words) if bits & (1 << at)])


def words_of_moves(moves):
    """The set of the words in moves of a MACHINE."""
    return as_set([word for _, yes, no, _ in moves for word in yes + no])


def works_of(machine):
    """A MACHINE of tuples, made ready."""
    return works_with(machine, words_of_moves(machine[2]))


def works_with(machine, words):
    """A MACHINE of tuples, made ready, with these words, its own among them."""
    many, starts, moves, marks = machine
    rows = [[] for _ in range(many)]
    for standing, yes, no, goal in moves:
        label = (bits_among(words, yes), bits_among(words, no))
        if label[0] & label[1] == 0:
            rows[standing].append((label, goal))
    masks = [0 for _ in range(many)]
    for at, row in enumerate(marks):
        for standing in row:
            masks[standing] |= 1 << at
    return Works(words, starts, rows, masks, len(marks))


def machine_of(works):
    """The MACHINE again."""
    moves = []
    for standing, row in enumerate(works.rows):
        for (yes, no), goal in row:
            told = (words_among(works.words, yes), words_among(works.words, no))
            moves.append((standing, *told, goal))
    marks = [
        tuple([node for node, mask in enumerate(works.masks) if mask & (1 << at)])
        for at in range(works.sets)
    ]
    return (len(works.rows), as_set(works.starts), as_set(moves), tuple(marks))


def live_in(works):
    """The standings, ascending, on ROWS by which something is taken."""
    return live_nodes(works.behind, works.starts, works.masks, works.full)


def only_with(works, standings):
    """The Works of these standings alone, numbered anew in this order."""
    places = {standing: at for at, standing in enumerate(standings)}
    rows = [
        [(label, places[goal]) for label, goal in works.rows[standing] if goal in places]
        for standing in standings
    ]
    starts = [places[standing] for standing in works.starts if standing in places]
    masks = [works.masks[standing] for standing in standings]
    return Works(works.words, starts, rows, masks, works.sets)


def lean_works(works):
    """The Works of the live standings alone."""
    return only_with(works, live_in(works))


def both_works(one, other):
    """Works that take what both take; they have the same words."""
    def rows_of(pair):
        found = []
        for (yes, no), goal in one.rows[pair[0]]:
            for (also_yes, also_no), behind in other.rows[pair[1]]:
                label = (yes | also_yes, no | also_no)
                if label[0] & label[1] == 0:
                    found.append((label, (goal, behind)))
        return found

    starts = [(here, there) for here in one.starts for there in other.starts]
    pairs, rows = explored(starts, rows_of)
    masks = [one.masks[here] | (other.masks[there] << one.sets) for here, there in pairs]
    begun = list(range(len(starts)))
    return Works(one.words, begun, rows, masks, one.sets + other.sets)


def either_works(one, other):
    """Works that take what one of both takes; they have the same words."""
    many, sets = len(one.rows), max(one.sets, other.sets)
    moved = [[(label, goal + many) for label, goal in row] for row in other.rows]
    starts = list(one.starts) + [standing + many for standing in other.starts]
    masks = _padded(one, sets) + _padded(other, sets)
    return Works(one.words, starts, one.rows + moved, masks, sets)


def with_some_set(works):
    """Works that take the same, with a set of marks at least."""
    if works.sets > 0:
        return works
    return Works(works.words, works.starts, works.rows, _padded(works, 1), 1)


def _padded(works, sets):
    """The masks with all standings in the sets that it has not, up to so many."""
    more = ((1 << sets) - 1) & ~works.full
    return [mask | more for mask in works.masks]


def one_set_works(works):
    """Works with just one set of marks that take the same."""
    if works.sets == 1:
        return works

    def rows_of(pair):
        standing, level = pair
        ahead = _level_behind(works, standing, level) % max(works.sets, 1)
        return [(label, (goal, ahead)) for label, goal in works.rows[standing]]

    pairs, rows = explored([(standing, 0) for standing in works.starts], rows_of)
    masks = [
        1 if _level_behind(works, standing, level) == works.sets else 0
        for standing, level in pairs
    ]
    return Works(works.words, list(range(len(works.starts))), rows, masks, 1)


def _level_behind(works, standing, level):
    """The set of marks to wait for behind a standing at which this one is waited for;
    how many there are, if none is left."""
    while works.masks[standing] & (1 << level):
        level += 1
    return level
