"""A SYSTEM made ready for going along its joint states."""

from runclaims.charts import Chart
from runclaims.errors import NoPart


class Plan:
    """What is asked for again and again at joint states.

    cell_at, queue_at, part_at: the number of each name; cell_tops, rooms,
    queue_tops: the numbers of each one; part_rows: the names of the parts;
    charts: the parts, compiled; first: the joint state at the beginning.
    """

    def __init__(self, system):
        cells, queues, parts = system
        self.cell_at = {row[0]: at for at, row in enumerate(cells)}
        self.cell_tops = [row[1] for row in cells]
        self.queue_at = {row[0]: at for at, row in enumerate(queues)}
        self.rooms = [row[1] for row in queues]
        self.queue_tops = [row[2] for row in queues]
        self.part_at = {row[0]: at for at, row in enumerate(parts)}
        self.part_rows = [row[0] for row in parts]
        self.charts = [Chart(row[1]) for row in parts]
        self.first = (
            tuple([0 for _ in parts]), tuple([row[2] for row in cells]),
            tuple([() for _ in queues]), -1,
        )

    def deed(self, part, number):
        """The deed of a STEP."""
        return self.charts[part].steps[number][1]


def part_number(plan, part):
    """The number of the part of this name; raises NoPart if there is none."""
    if part not in plan.part_at:
        raise NoPart(part)
    return plan.part_at[part]
