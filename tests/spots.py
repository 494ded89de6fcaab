"""How a part is compiled, told as plainly as can be: spots that are one place are joined."""


class Spots:
    """The spots of a block: (path of its block, number); one place by a table of links."""

    def __init__(self, block):
        self.links = {}
        self.met = []
        self.labels = {}
        self.walk(block, (), [], None)
        self.end = self.root(((), len(block)))
        self.places = {}
        for path, deed, _, _ in self.met:
            spot = self.root((path[:-1], path[-1]))
            if deed[0] != "label" and spot not in self.places:
                self.places[spot] = len(self.places)
        assert self.end not in self.places
        self.places[self.end] = len(self.places)

    def root(self, spot):
        while self.links.get(spot, spot) != spot:
            spot = self.links[spot]
        return spot

    def join(self, one, other):
        self.links[self.root(one)] = self.root(other)

    def walk(self, block, path, agains, once):
        """agains: the spots behind the agains around; once: (path, block) of the once around."""
        for at, deed in enumerate(block):
            here = (*path, at)
            ahead, behind = (path, at), (path, at + 1)
            self.met.append((here, deed, list(agains), once))
            if deed[0] == "label":
                self.join(ahead, behind)
                self.labels[deed[1]] = ahead
            if deed[0] == "once":
                self.join(ahead, (here, 0))
                self.join((here, len(deed[1])), behind)
                self.walk(deed[1], here, agains, (here, deed[1]))
            if deed[0] in ("pick", "again"):
                for number, inner in enumerate(deed[1]):
                    self.join(ahead, ((*here, number), 0))
                    last = ((*here, number), len(inner))
                    self.join(last, ahead if deed[0] == "again" else behind)
                    around = agains + [behind] if deed[0] == "again" else agains
                    self.walk(inner, (*here, number), around, once)

    def place(self, spot):
        return self.places[self.root(spot)]

    def steps(self):
        """The pairs (STEP, path of its DEED), ascending."""
        found = []
        for path, deed, agains, once in self.met:
            if deed[0] in ("label", "pick", "again", "once"):
                continue
            goal, done = (path[:-1], path[-1] + 1), deed
            if deed[0] == "go":
                goal, done = self.labels[deed[1]], ("pass",)
            if deed[0] == "leave":
                goal, done = agains[-1], ("pass",)
            place = self.place((path[:-1], path[-1]))
            held = once is not None and self.place(goal) in self.within(*once)
            found.append(((place, done, self.place(goal), held), path))
        return sorted(found, key=lambda row: row[0][0])

    def within(self, path, block):
        """The places of the spots in a once, but for that ahead of its opener and behind its end."""
        spots = [((path), at) for at in range(len(block) + 1)]
        for other, deed, _, _ in self.met:
            if other[:len(path)] == path and deed[0] in ("pick", "again"):
                for number, inner in enumerate(deed[1]):
                    spots.extend([((*other, number), at) for at in range(len(inner) + 1)])
        apart = (self.place((path, 0)), self.place((path, len(block))))
        return {self.place(spot) for spot in spots} - set(apart)

    def label_places(self):
        return {label: self.place(spot) for label, spot in self.labels.items()}
