"""MACHINES made: from others, and for FORMULAS; what FORMULAS mean, told by these."""

from runclaims.formulas import is_true
from runclaims.lessening import lessened
from runclaims.loops import is_loop
from runclaims.machines import loop_of
from runclaims.plain import as_set, frozen
from runclaims.tableaus import works_against, works_for
from runclaims.works import (
    both_works, either_works, lean_works, machine_of, one_set_works, with_some_set,
    words_of_moves, works_of, works_with,
)


def one_set(machine):
    """A MACHINE with just one set of marks that takes the same LOOPS."""
    given = frozen(machine)
    if len(given[3]) == 1:
        return given
    return machine_of(with_some_set(lessened(one_set_works(works_of(given)))))


def both_machine(one, other):
    """A MACHINE that takes just the LOOPS that both take."""
    first, second = _with_one_words(frozen(one), frozen(other))
    return machine_of(lean_works(both_works(first, second)))


def either_machine(one, other):
    """A MACHINE that takes just the LOOPS that one of them takes, or both."""
    first, second = _with_one_words(frozen(one), frozen(other))
    return machine_of(either_works(first, second))


def machine_for(formula):
    """A MACHINE that takes just the LOOPS of which it is true."""
    return machine_of(works_for(frozen(formula)))


def takes_only(machine, formula):
    """Whether it is true of each LOOP that the MACHINE takes."""
    return only_against(machine, formula) is None


def only_against(machine, formula):
    """A LOOP that the MACHINE takes and of which it is not true; None if there is none."""
    return _loop_of_both(frozen(machine), machine_of(works_against(frozen(formula))))


def loop_for(formula):
    """A LOOP of which it is true; None if there is none."""
    return loop_of(works_for(frozen(formula)))


def can_be(formula):
    """Whether it is true of some LOOP."""
    return loop_for(formula) is not None


def is_sure(formula):
    """Whether it is true of all LOOPS."""
    return loop_of(works_against(frozen(formula))) is None


def implies(one, other):
    """Whether other is true of all LOOPS of which one is."""
    return _loop_without(frozen(one), frozen(other)) is None


def mean_same(one, other):
    """Whether both are true of the same LOOPS."""
    return loop_apart(one, other) is None


def loop_apart(one, other):
    """A LOOP of which just one of both is true; None if there is none."""
    first, second = frozen(one), frozen(other)
    found = _loop_without(first, second)
    if found is None:
        found = _loop_without(second, first)
    return found


def is_loop_apart(one, other, thing):
    """Whether thing is a LOOP of which just one of both is true."""
    return is_loop(thing) and is_true(one, thing) != is_true(other, thing)


def _with_one_words(one, other):
    """Both MACHINES made ready, with the same words."""
    words = as_set(words_of_moves(one[2]) + words_of_moves(other[2]))
    return works_with(one, words), works_with(other, words)


def _loop_of_both(one, other):
    """A LOOP that both MACHINES take; None if there is none."""
    first, second = _with_one_words(one, other)
    return loop_of(both_works(first, second))


def _loop_without(one, other):
    """A LOOP of which one is true and other is not; None if there is none."""
    return _loop_of_both(machine_of(works_for(one)), machine_of(works_against(other)))
