"""Graphs: components, ways, circles, compared with what the closure of all steps tells."""

import unittest

from helper import Maker
from plainmachines import closure, plain_fewest
from runclaims.graphs import (
    circle_in, come_from, components, depths_from, explored, fewest_in_lasso, full_components, goals_of,
    lasso, live_nodes, way_to,
)


def graphs(seed, many, most=9):
    maker = Maker(seed)
    for _ in range(many):
        size = maker.random.randint(1, most)
        behind = [
            sorted({maker.random.randrange(size) for _ in range(maker.random.randint(0, 3))}) for _ in range(size)
        ]
        masks = [maker.random.choice((0, 0, 0, 1, 2, 3)) for _ in range(size)]
        yield maker, behind, masks


class Graphs(unittest.TestCase):
    def test_components(self):
        for maker, behind, _ in graphs(141, 300):
            nodes = [node for node in range(len(behind)) if maker.random.random() < 0.8]
            led = closure(nodes, lambda node: [goal for goal in behind[node] if goal in nodes])
            rows = components(behind, nodes)
            self.assertEqual(sorted([node for row in rows for node in row]), nodes)
            place = {node: at for at, row in enumerate(rows) for node in row}
            for one in nodes:
                for other in nodes:
                    if one != other:
                        self.assertEqual(place[one] == place[other], other in led[one] and one in led[other])
                for goal in behind[one]:
                    if goal in place:
                        self.assertLessEqual(place[goal], place[one])

    def test_long_ways(self):
        many = 20000
        behind = [[node + 1] for node in range(many - 1)] + [[0]]
        self.assertEqual(len(components(behind, list(range(many)))), 1)
        self.assertEqual(len(components(behind, list(range(1, many)))), many - 1)
        self.assertEqual(fewest_in_lasso(behind, [0], [1] * many, 1), many)
        self.assertEqual(depths_from(behind, [5])[4], many - 1)

    def test_ladders(self):
        # Two tracks with crossings and one way back: a long circle that must be found once alone.
        many = 2000
        behind = []
        for step in range(many):
            ahead = (step + 1) % many
            behind.extend([[2 * ahead, 2 * ahead + 1], [2 * ahead, 2 * ahead + 1]])
        self.assertEqual(fewest_in_lasso(behind, [0], [1] * (2 * many), 1), many)

    def test_ways_and_lassos(self):
        for maker, behind, masks in graphs(142, 300):
            start = [maker.random.randrange(len(behind))]
            nodes = come_from(behind, start)
            self.assertEqual(sorted(nodes), sorted(depths_from(behind, start)))
            led = closure(range(len(behind)), lambda node: behind[node])
            self.assertEqual(sorted(nodes), sorted(led[start[0]] | set(start)))
            fewest = plain_fewest(start, lambda node: behind[node], lambda node: node, marks_of(masks))
            self.assertEqual(fewest_in_lasso(behind, start, masks, 3), fewest)
            found = lasso(behind, start, masks, 3)
            self.assertEqual(found is None, fewest is None)
            if found is not None:
                self.assert_is_lasso(behind, start, masks, found)
            live = [
                node for node in nodes
                if any([one == node or one in led[node] for row in full_components(behind, nodes, masks, 3) for one in row])
            ]
            self.assertEqual(live_nodes(behind, start, masks, 3), sorted(live))

    def assert_is_lasso(self, behind, start, masks, found):
        first, again = found
        row = first + again + again[:1]
        self.assertIn(row[0], start)
        for one, other in zip(row, row[1:]):
            self.assertIn(other, behind[one])
        for own in marks_of(masks):
            self.assertTrue(set(again) & set(own))

    def test_small_ones(self):
        self.assertEqual(explored([], lambda key: []), ([], []))
        self.assertEqual(explored(["a", "a"], lambda key: [(1, "b"), (2, "a")] if key == "a" else []),
                         (["a", "b"], [[(1, 1), (2, 0)], []]))
        self.assertEqual(goals_of([[(1, 1), (2, 0), (3, 1)], []]), [[0, 1], []])
        self.assertIsNone(way_to([[], []], {0: True, 1: True}, [0], {1: True}))
        self.assertEqual(way_to([[1], []], {0: True, 1: True}, [0], {1: True}), [0, 1])
        self.assertEqual(way_to([[1], []], {1: True}, [0], {1: True}), None)
        self.assertEqual(circle_in([[0]], [0], 0, [1], 1), [0])
        self.assertEqual(circle_in([[1], [2], [0]], [0, 1, 2], 1, [1, 0, 2], 3), [1, 2, 0])
        self.assertIsNone(lasso([[]], [0], [0], 0))
        self.assertIsNone(lasso([[0]], [], [0], 0))
        self.assertEqual(lasso([[0]], [0], [0], 0), ([], [0]))


def marks_of(masks):
    return [tuple([node for node, mask in enumerate(masks) if mask & bit]) for bit in (1, 2)]


if __name__ == "__main__":
    unittest.main()
