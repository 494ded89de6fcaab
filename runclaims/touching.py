"""What STEPS and HEARD words touch, and the places of a part that are apart.

What is touched is told as a triple of lists: cells, queues, labels; labels as pairs
(part, label).
"""

from runclaims.walks import (
    asked_cells, asked_pairs, cells_of_test, labels_of_test, let_cells, named_queues, queues_of_test,
)


def touched_by(plan, part, number):
    """What a STEP touches; an else also what all other STEPS of its place touch."""
    chart = plan.charts[part]
    place = chart.steps[number][0]
    numbers = [number]
    if plan.deed(part, number) == ("else",):
        numbers = chart.leaving[place]
    return joined([_touched_alone(plan, part, at) for at in numbers])


def touched_by_heard(heard):
    """What HEARD words touch."""
    return joined([
        (cells_of_test(test), queues_of_test(test), labels_of_test(test)) for _, test in heard
    ])


def shared_for(plan, heard, part):
    """What STEPS of other parts, or HEARD words, touch."""
    found = [touched_by_heard(heard)]
    for other, chart in enumerate(plan.charts):
        if other != part:
            found.extend([touched_by(plan, other, number) for number in range(len(chart.steps))])
    return joined(found)


def joined(rows):
    """All cells, all queues, all labels of such triples."""
    return tuple([[one for row in rows for one in row[at]] for at in range(3)])


def places_apart(plan, heard, part):
    """The places of a part that are apart, ascending."""
    shared = shared_for(plan, heard, part)
    waited = waited_queues(plan, part)
    chart = plan.charts[part]
    found = []
    for place, numbers in enumerate(chart.leaving):
        steps = [chart.steps[number] for number in numbers]
        goals = [goal for _, _, goal, once in steps]
        met = [queue for goal in goals for queue in handed_queues(plan, part, goal)]
        apart = not any([once for _, _, _, once in steps])
        if any([queue in waited for queue in met]) or any([
            _meets(touched_by(plan, part, number), shared) for number in numbers
        ]):
            apart = False
        if steps and apart:
            found.append(place)
    return found


def handed_queues(plan, part, place):
    """The queues of room 0 that STEPS from a place put into or get from."""
    chart = plan.charts[part]
    deeds = [chart.steps[number][1] for number in chart.leaving[place]]
    return [
        deed[1] for deed in deeds
        if deed[0] in ("put", "get") and plan.rooms[plan.queue_at[deed[1]]] == 0
    ]


def waited_queues(plan, part):
    """The queues of room 0 on which another part has a STEP from one of its held places
    or of its places at which an else begins."""
    found = []
    for other, chart in enumerate(plan.charts):
        if other != part:
            held = [goal for _, _, goal, once in chart.steps if once]
            held.extend([place for place, deed, _, _ in chart.steps if deed == ("else",)])
            found.extend([queue for place in held for queue in handed_queues(plan, other, place)])
    return found


def _touched_alone(plan, part, number):
    """What a STEP touches, an else not looked at apart."""
    chart, name = plan.charts[part], plan.part_rows[part]
    place, deed, goal, _ = chart.steps[number]
    labels = asked_pairs(deed)
    if place != goal:
        own = chart.labels_at(place) + chart.labels_at(goal)
        labels = labels + [(name, label) for label in own]
    return asked_cells(deed) + let_cells(deed), named_queues(deed), labels


def _meets(one, other):
    """Whether two such triples have something in common."""
    return any([thing in there for here, there in zip(one, other) for thing in here])
