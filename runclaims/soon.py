"""SOON FORMULAS: whether they are true of all runs, told by what is left of them."""

from runclaims.formulaparts import add_rows

LATE = ("until", "unless", "ever", "always")
# The numbers of the rows of true and of not true.
TRUTH = 0
NEVER = 1


class Soon:
    """A SOON FORMULA, and what is left of it behind sets that are told.

    rows, numbers: rows as in formulaparts, true and not true ahead of all; aim: the
    number of the FORMULA itself; known: what is left of rows, by (number, told).
    """

    def __init__(self, formula):
        self.rows = [("true",), ("not", TRUTH)]
        self.numbers = {("true",): TRUTH, ("not", TRUTH): NEVER}
        self.known = {}
        self.aim = add_rows(self.rows, self.numbers, formula)

    def is_soon(self):
        """Whether it is one, without until, unless, ever and always."""
        return not any([row[0] in LATE for row in self.rows])

    def left_over(self, number, told):
        """The number of what is left of a row behind a set."""
        key = (number, told)
        if key not in self.known:
            found = {}
            # Rows come behind those that they name.
            for at in sorted(self.up_to_next(number)):
                found[at] = self.left_by(self.rows[at], told, found)
            self.known[key] = found[number]
        return self.known[key]

    def up_to_next(self, number):
        """The numbers of the rows that stand in a row, but for those within a next."""
        todo, met = [number], {}
        while todo:
            at = todo.pop()
            if at not in met:
                met[at] = True
                if self.rows[at][0] in ("not", "and", "or"):
                    todo.extend(self.rows[at][1:])
        return list(met)

    def left_by(self, row, told, found):
        """The number of what is left of a row; found has that of those that it names."""
        kind = row[0]
        if kind == "true":
            return TRUTH
        if kind == "word":
            return TRUTH if row[1] in told else NEVER
        if kind == "next":
            return row[1]
        one = found[row[1]]
        if kind == "not":
            return TRUTH if one == NEVER else self.number_of(("not", one))
        other = found[row[2]]
        decided, needless = (NEVER, TRUTH) if kind == "and" else (TRUTH, NEVER)
        if decided in (one, other):
            return decided
        if one in (needless, other):
            return other
        return one if other == needless else self.number_of((kind, one, other))

    def number_of(self, row):
        """The number of a row, maybe a new one."""
        if row not in self.numbers:
            self.numbers[row] = len(self.rows)
            self.rows.append(row)
        return self.numbers[row]


def is_kept_soon(tellings, soon):
    """Whether a SOON FORMULA is true of all runs that tell these rows."""
    todo = [(0, soon.aim)]
    met = {todo[0]: True}
    while todo:
        bits, number = todo.pop()
        ahead = tellings.led_on(bits)
        for told in ahead:
            rest = soon.left_over(number, told)
            goal = (ahead[told], rest)
            if rest == NEVER:
                return False
            if rest != TRUTH and goal not in met:
                met[goal] = True
                todo.append(goal)
    return True
