"""KINDS, what all fair runs keep, and FALLS as papers for that."""

from runclaims.fairness import (
    all_components, bits_of_turn, fair_component, fair_round, fall_rows, kinds_bits, net_of_field,
    net_of_pairs, net_without, waiting_bits,
)
from runclaims.fallchecks import are_falls
from runclaims.fields import field_from, field_of, pairs_of
from runclaims.graphs import way_to
from runclaims.laps import (
    is_lap_where, lap_states, refuse_unheard, states_along, turns_along,
)
from runclaims.moves import ready_turns
from runclaims.pairforms import told_pairs
from runclaims.plain import as_set, frozen
from runclaims.plans import Plan, part_number
from runclaims.tableaus import works_against
from runclaims.works import works_of

# The lesser one ahead.
WORDS = ("none", "weak", "strong")


def ready_parts(system, state):
    """The set of the parts that take part in ready TURNS there."""
    plan, here = Plan(frozen(system)), frozen(state)
    return _names(plan, _ready_at(plan, here))


def waiting_parts(system, lap, kinds):
    """The set of the parts because of which a LAP is not fair."""
    plan, given = Plan(frozen(system)), frozen(lap)
    return _names(plan, _waiting(plan, plan.first, given, kinds_bits(kinds)))


def is_fair(system, kinds, thing):
    """Whether thing is a LAP that is fair."""
    plan = Plan(frozen(system))
    return _is_fair_from(plan, plan.first, thing, kinds_bits(kinds))


def left_out(system, lap):
    """The set of the parts that take part in no TURN of the round of a LAP."""
    plan = Plan(frozen(system))
    taken = _taken_along(frozen(lap)[1])
    return tuple([name for at, name in enumerate(plan.part_rows) if not taken & (1 << at)])


def keeps_fairly(system, heard, formula, kinds):
    """Whether the FORMULA is true of all fair runs."""
    return fair_against(system, heard, formula, kinds) is None


def fair_against(system, heard, formula, kinds):
    """A fair LAP that tells a LOOP of which it is not true; None if there is none."""
    net, starts = _net_against(system, heard, formula)
    bits = kinds_bits(kinds)
    return _fair_lap(net, net, starts, fair_component(net, all_components(net), bits), bits)


def is_fair_against(system, heard, formula, kinds, thing):
    """Whether thing is a fair LAP that tells a LOOP of which it is not true."""
    words, wanted = frozen(heard), frozen(formula)
    refuse_unheard(words, (wanted,))
    return is_fair(system, kinds, thing) and is_lap_where(
        Plan(frozen(system)), words, wanted, thing, False,
    )


def falls(system, heard, machine, kinds):
    """FALLS; None if there are none."""
    field, works = field_of(system), works_of(frozen(machine))
    pairs = pairs_of(field, works, frozen(heard))
    found = fall_rows(net_of_pairs(field, pairs), kinds_bits(kinds))
    if found is None:
        return None
    rows, reasons = found
    numbers = [(*pair, row) for pair, row in zip(told_pairs(field, pairs), rows)]
    names = field.plan.part_rows
    told = [(front, _with_name(names, reasons[front])) for front in sorted(reasons)]
    return tuple(sorted(numbers)), tuple(told)


def is_falls(system, heard, machine, kinds, thing):
    """Whether thing are FALLS."""
    field, works = field_of(system), works_of(frozen(machine))
    pairs = pairs_of(field, works, frozen(heard))
    return are_falls(field, works, pairs, net_of_pairs(field, pairs), kinds_bits(kinds), thing)


def least_kinds(system, heard, formula):
    """The list of the least KINDS by which it is kept."""
    net, _ = _net_against(system, heard, formula)
    rows = all_components(net)
    found = []
    for kinds in _all_kinds(len(frozen(system)[2])):
        if not any([_are_at_least(kinds, other) for other in found]):
            if fair_component(net, rows, kinds_bits(kinds)) is None:
                found.append(kinds)
    return sorted(found)


def must_be_fair(system, heard, formula):
    """The set of the parts with another word than "none" in each of the least KINDS."""
    rows = least_kinds(system, heard, formula)
    names = [row[0] for row in frozen(system)[2]]
    return tuple([
        name for at, name in enumerate(names) if not any([kinds[at] == "none" for kinds in rows])
    ])


def weak_is_enough(system, heard, formula, kinds):
    """Whether it is kept by these KINDS with "weak" in the place of each "strong"."""
    weaker = tuple(["weak" if word == "strong" else word for word in kinds])
    return keeps_fairly(system, heard, formula, weaker)


def can_be_left_out(system, kinds):
    """The set of the parts that some fair LAP leaves out."""
    field = field_of(system)
    return tuple([
        name for at, name in enumerate(field.plan.part_rows)
        if _lap_without(field, 1 << at, kinds_bits(kinds)) is not None
    ])


def leaving_out(system, kinds, some):
    """A fair LAP that leaves out all of these parts; None if there is none."""
    left = _bits_of_parts(Plan(frozen(system)), some)
    return _lap_without(field_of(system), left, kinds_bits(kinds))


def is_leaving_out(system, kinds, some, thing):
    """Whether thing is a fair LAP that leaves out all of these parts."""
    left = _bits_of_parts(Plan(frozen(system)), some)
    return is_fair(system, kinds, thing) and not _taken_along(thing[1]) & left


def fair_on(system, state, kinds):
    """TURNS from this STATE on that go round fairly."""
    field, bits = field_from(Plan(frozen(system)), [frozen(state)]), kinds_bits(kinds)
    net = net_of_field(field)
    return _fair_lap(net, net, [0], fair_component(net, all_components(net), bits), bits)


def is_fair_on(system, state, kinds, thing):
    """Whether thing are TURNS from this STATE on that go round fairly."""
    return _is_fair_from(Plan(frozen(system)), frozen(state), thing, kinds_bits(kinds))


def _names(plan, bits):
    """The set of the names of the parts with these bits."""
    return tuple([name for at, name in enumerate(plan.part_rows) if bits & (1 << at)])


def _with_name(names, reason):
    """The reason with the name of its part, if it is one of a part."""
    if reason[0] == "part":
        return ("part", names[reason[1]])
    return reason


def _bits_of_parts(plan, names):
    """The bits of the parts of these names; raises NoPart for the first that is none."""
    numbers = [part_number(plan, name) for name in names]
    return sum([1 << part for part in as_set(numbers)])


def _ready_at(plan, state):
    """The bits of the parts that are ready at a STATE."""
    found = 0
    for turn in ready_turns(plan, state):
        found |= bits_of_turn(turn)
    return found


def _taken_along(turns):
    """The bits of the parts that take part in some of these TURNS."""
    found = 0
    for turn in turns:
        found |= bits_of_turn(turn)
    return found


def _waiting(plan, state, lap, bits):
    """The bits of the parts because of which TURNS from this STATE on are not fair."""
    states = states_along(plan, state, lap[0] + lap[1])[len(lap[0]):-1]
    always, ever = -1, 0
    for here in states:
        ready = _ready_at(plan, here)
        always &= ready
        ever |= ready
    return waiting_bits(bits, _taken_along(lap[1]), always, ever)


def _is_fair_from(plan, state, thing, bits):
    """Whether thing are TURNS from this STATE on that go round fairly."""
    if lap_states(plan, state, thing) is None:
        return False
    return _waiting(plan, state, thing, bits) == 0


def _net_against(system, heard, formula):
    """The Net of PAIRS with a MACHINE for the opposite of a FORMULA, and those that begin."""
    words, wanted = frozen(heard), frozen(formula)
    refuse_unheard(words, (wanted,))
    field = field_of(system)
    pairs = pairs_of(field, works_against(wanted), words)
    return net_of_pairs(field, pairs), pairs.starts


def _fair_lap(whole, net, starts, component, bits):
    """TURNS of the whole Net to such a component of a Net, and round in it; None without one."""
    if component is None:
        return None
    nodes = {node: True for node in range(len(whole.rows))}
    way = way_to(whole.behind, nodes, starts, {node: True for node in component})
    turns = turns_along(whole.rows, way)
    return tuple(turns), fair_round(net, component, way[-1], bits)


def _lap_without(field, left, bits):
    """A fair LAP in whose round none of the parts with these bits takes part; None without one."""
    net = net_without(field, left)
    component = fair_component(net, all_components(net), bits)
    return _fair_lap(net_of_field(field), net, [0], component, bits)


def _all_kinds(many):
    """All KINDS of so many parts, none behind one that is at least it."""
    rows = [()]
    for _ in range(many):
        rows = [(*row, word) for row in rows for word in WORDS]
    return sorted(rows, key=lambda row: sum([WORDS.index(word) for word in row]))


def _are_at_least(kinds, other):
    """Whether no word in KINDS is lesser than in others."""
    return all([WORDS.index(one) >= WORDS.index(less) for one, less in zip(kinds, other)])
