"""How a block is compiled to PLACES and STEPS.

While a block is drawn, spots that are one place share a mark: the path of one
of them, that is the path of the block and the number of DEEDS ahead of the spot.
"""


class Chart:
    """A block, compiled.

    steps: its STEPS; paths: the paths of their DEEDS; end: its last PLACE;
    leaving: for each PLACE the numbers of the STEPS that begin there;
    label_places: the PLACE of each label; written: the DEED at each path.
    """

    def __init__(self, block):
        last = (len(block),)
        met = _met(block, (), _marks(block, (), last), None, None)
        places = _numbered(met, last)
        labels = {deed[1]: ahead for deed, _, ahead, _, _, _ in met if deed[0] == "label"}
        rows = _step_rows(met, places, labels)
        self.steps = tuple([row[:4] for row in rows])
        self.paths = tuple([row[4] for row in rows])
        self.end = places[last]
        self.leaving = [
            tuple([at for at, row in enumerate(rows) if row[0] == place])
            for place in range(self.end + 1)
        ]
        self.label_places = {label: places[labels[label]] for label in labels}
        self.written = {path: deed for deed, path, _, _, _, _ in met}

    def labels_at(self, place):
        """The labels at a PLACE, ascending."""
        found = self.label_places
        return [label for label in sorted(found) if found[label] == place]

    def led_to(self, places):
        """The PLACES to which rows of STEPS lead from these, themselves too."""
        found = list(places)
        at = 0
        while at < len(found):
            numbers = self.leaving[found[at]]
            goals = [self.steps[number][2] for number in numbers]
            found.extend([goal for goal in sorted(set(goals)) if goal not in found])
            at += 1
        return found


def _marks(block, path, behind):
    """The marks of the spots of a block, the last of which has the mark behind."""
    row = [behind]
    for at in reversed(range(len(block))):
        # A label is passed without a STEP: both of its sides are one place.
        row.append(row[-1] if block[at][0] == "label" else (*path, at))
    return row[::-1]


def _met(block, path, marks, leave, once):
    """The DEEDS of a block as they are met, each with its path, the marks ahead of
    it and behind it, the mark to which a leave leads, and the path of the once
    around it."""
    found = []
    for at, deed in enumerate(block):
        here, ahead, behind = (*path, at), marks[at], marks[at + 1]
        found.append((deed, here, ahead, behind, leave, once))
        if deed[0] == "once":
            found.extend(_met_within(deed[1], here, (ahead, behind), leave, here))
        elif deed[0] == "pick":
            for number, inner in enumerate(deed[1]):
                bounds = (ahead, behind)
                found.extend(_met_within(inner, (*here, number), bounds, leave, once))
        elif deed[0] == "again":
            for number, inner in enumerate(deed[1]):
                bounds = (ahead, ahead)
                found.extend(_met_within(inner, (*here, number), bounds, behind, once))
    return found


def _met_within(block, path, bounds, leave, once):
    """The same for a block of a DEED, whose first and last spots have these marks."""
    ahead, behind = bounds
    marks = [ahead] + _marks(block, path, behind)[1:]
    return _met(block, path, marks, leave, once)


def _numbered(met, last):
    """The number of the PLACE of each mark from which something is done; last comes last."""
    places = {}
    for deed, _, ahead, _, _, _ in met:
        if deed[0] != "label" and ahead not in places:
            places[ahead] = len(places)
    places[last] = len(places)
    return places


def _step_rows(met, places, labels):
    """For each STEP, ascending: place, deed, goal, once and the path of its DEED."""
    rows = []
    for deed, path, ahead, behind, leave, once in met:
        if deed[0] in ("label", "pick", "again", "once"):
            continue
        goal, done = behind, deed
        if deed[0] == "go":
            goal, done = labels[deed[1]], ("pass",)
        elif deed[0] == "leave":
            goal, done = leave, ("pass",)
        rows.append((places[ahead], done, places[goal], _is_within(goal, once), path))
    return sorted(rows, key=lambda row: row[0])


def _is_within(mark, once):
    """Whether a mark is that of a spot in the once at this path, its first and last apart."""
    # Its first and its last spot have marks from outside, as all that is one place with them.
    return once is not None and len(mark) > len(once) and mark[:len(once)] == once
