"""LOOPS: what is told along runs that come back to themselves."""

from runclaims.errors import NoNumber, Unfit
from runclaims.plain import frozen, is_name_set, is_row


def is_loop(thing):
    """Whether thing is a LOOP."""
    if not is_row(thing, 2):
        return False
    for sets in thing:
        if type(sets) is not tuple or not all([is_name_set(told) for told in sets]):
            return False
    return len(thing[1]) > 0


def told_there(loop, number):
    """The set told at this place of the run."""
    front, circle = frozen(loop)
    return (front + circle)[place_of_run(front, circle, number)]


def run_from(loop, number):
    """The run from this place on."""
    front, circle = frozen(loop)
    place = place_of_run(front, circle, number)
    if place < len(front):
        return (front[place:], circle)
    turned = place - len(front)
    return ((), circle[turned:] + circle[:turned])


def least_loop(loop):
    """The alike LOOP with the fewest places."""
    front, circle = frozen(loop)
    circle = circle[:_period(circle)]
    # What ends the front may as well be what ends the round.
    while len(front) > 0 and front[-1] == circle[-1]:
        front, circle = front[:-1], circle[-1:] + circle[:-1]
    return (front, circle)


def are_alike(loop, other):
    """Whether both LOOPS have one run."""
    return least_loop(loop) == least_loop(other)


def without_repeats(loop):
    """The LOOP with the fewest places that has the run without repeats."""
    front, circle = frozen(loop)
    # A round that comes again begins with a repeat where it begins as it ended.
    again = squeezed_sets(circle[-1:] + circle)[1:]
    if again == ():
        again = circle[:1]
    return least_loop((squeezed_sets(front + circle), again))


def alike_but_repeats(loop, other):
    """Whether the runs without repeats of both LOOPS are one."""
    return without_repeats(loop) == without_repeats(other)


def with_repeats(loop, numbers):
    """The LOOP in which each place stands so many times."""
    front, circle = frozen(loop)
    many = frozen(numbers)
    if len(many) != len(front) + len(circle):
        raise Unfit()
    return (_repeated(front, many), _repeated(circle, many[len(front):]))


def place_of_run(front, circle, number):
    """The place of the LOOP that this place of its run is."""
    if number < 0:
        raise NoNumber(number)
    if number < len(front):
        return number
    return len(front) + (number - len(front)) % len(circle)


def _period(circle):
    """The length of the shortest row of sets of which a round is made by repeating it."""
    for many in range(1, len(circle)):
        if len(circle) % many == 0 and circle[many:] == circle[:-many]:
            return many
    return len(circle)


def squeezed_sets(sets):
    """The sets without those that are like the one right ahead of them."""
    return tuple([told for at, told in enumerate(sets) if at == 0 or sets[at - 1] != told])


def _repeated(sets, numbers):
    """The sets, each so many times; numbers may go on behind."""
    return tuple([told for told, many in zip(sets, numbers) for _ in range(many)])
