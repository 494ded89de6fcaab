"""The parts of a SYSTEM compiled to PLACES and STEPS."""

from runclaims.charts import Chart
from runclaims.errors import NoLabel, NoNumber, Unfit
from runclaims.plain import as_set, frozen
from runclaims.systems import block_of, part_names
from runclaims.walks import asked_cells, asked_pairs, let_cells, named_queues


def steps_of(system, part):
    """The tuple of the STEPS of a part."""
    return _chart(system, part).steps


def table(system):
    """The tuple of the STEPS of each part."""
    return tuple([steps_of(system, part) for part in part_names(system)])


def end_of(system, part):
    """The end of a part."""
    return _chart(system, part).end


def how_many_places(system, part):
    """How many PLACES a part has."""
    return _chart(system, part).end + 1


def step_of(system, part, number):
    """The STEP with this number."""
    return _chart_with_step(system, part, number).steps[number]


def steps_at(system, part, place):
    """The set of the numbers of the STEPS that begin at this place."""
    return _chart_with_place(system, part, place).leaving[place]


def label_place(system, part, label):
    """The place of a label."""
    places = _chart(system, part).label_places
    if label not in places:
        raise NoLabel(label)
    return places[label]


def labels_at(system, part, place):
    """The set of the labels at this place."""
    return tuple(_chart_with_place(system, part, place).labels_at(place))


def standing(system, places):
    """The set of the pairs (part, label) of the labels at which the parts stand."""
    found = []
    for part, place in zip(part_names(system), frozen(places)):
        found.extend([(part, label) for label in labels_at(system, part, place)])
    return as_set(found)


def held_places(system, part):
    """The set of the goals of the once STEPS."""
    return as_set([goal for _, _, goal, once in steps_of(system, part) if once])


def path_of(system, part, number):
    """Where the DEED of this STEP stands."""
    return _chart_with_step(system, part, number).paths[number]


def step_with(system, part, path):
    """The number of the STEP whose DEED stands so."""
    chart = _chart(system, part)
    wanted = frozen(path)
    for number, own in enumerate(chart.paths):
        if own == wanted:
            return number
    raise Unfit()


def deed_with(system, part, path):
    """The DEED that stands so."""
    written = _chart(system, part).written
    wanted = frozen(path)
    if wanted not in written:
        raise Unfit()
    return written[wanted]


def places_behind(system, part, place):
    """The set of the goals of the STEPS that begin at this place."""
    chart = _chart_with_place(system, part, place)
    return as_set([chart.steps[number][2] for number in chart.leaving[place]])


def places_led_to(system, part, place):
    """The set of the places to which rows of STEPS lead from this one."""
    return as_set(_chart_with_place(system, part, place).led_to([place]))


def lost_steps(system, part):
    """The set of the numbers of the STEPS that no row of STEPS comes to."""
    chart = _chart(system, part)
    met = chart.led_to([0])
    return tuple([at for at, step in enumerate(chart.steps) if step[0] not in met])


def entries(system, part, place):
    """The set of the numbers of the STEPS that lead to this place."""
    steps = _chart_with_place(system, part, place).steps
    return tuple([at for at, step in enumerate(steps) if step[2] == place])


def goes_round(system, part):
    """Whether some row of STEPS comes back to a place to which 0 leads."""
    chart = _chart(system, part)
    for place in chart.led_to([0]):
        goals = [chart.steps[number][2] for number in chart.leaving[place]]
        if place in chart.led_to(goals):
            return True
    return False


def step_reads(system, part, number):
    """The set of the cells that a STEP asks for."""
    deeds = _asking(system, part, number)
    return as_set([cell for deed in deeds for cell in asked_cells(deed)])


def step_lets(system, part, number):
    """The set of the cells that a STEP lets or gets into."""
    return as_set(let_cells(step_of(system, part, number)[1]))


def step_queues(system, part, number):
    """The set of the queues that a STEP puts into, gets from or asks for."""
    deeds = _asking(system, part, number)
    return as_set([queue for deed in deeds for queue in named_queues(deed)])


def step_asks(system, part, number):
    """The set of the pairs (part, label) that a STEP asks for."""
    deeds = _asking(system, part, number)
    return as_set([pair for deed in deeds for pair in asked_pairs(deed)])


def step_labels(system, part, number):
    """The set of the labels of the part that a STEP leaves or comes to."""
    chart = _chart_with_step(system, part, number)
    place, _, goal, _ = chart.steps[number]
    if place == goal:
        return ()
    return as_set(chart.labels_at(place) + chart.labels_at(goal))


def is_alike(system, part, name):
    """Whether two parts have the same STEPS, and the same labels at the same places."""
    one, other = _chart(system, part), _chart(system, name)
    return one.steps == other.steps and one.label_places == other.label_places


def _chart(system, part):
    """The part, compiled."""
    return Chart(block_of(system, part))


def _chart_with_place(system, part, place):
    """The part, compiled, which has this place."""
    chart = _chart(system, part)
    if not 0 <= place <= chart.end:
        raise NoNumber(place)
    return chart


def _chart_with_step(system, part, number):
    """The part, compiled, of which a STEP has this number."""
    chart = _chart(system, part)
    if not 0 <= number < len(chart.steps):
        raise NoNumber(number)
    return chart


def _asking(system, part, number):
    """The deeds by which a STEP asks: its own, of an else those of all STEPS of its place."""
    chart = _chart_with_step(system, part, number)
    place, deed, _, _ = chart.steps[number]
    if deed != ("else",):
        return [deed]
    return [chart.steps[at][1] for at in chart.leaving[place]]
