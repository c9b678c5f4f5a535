"""The greatest totals of walks, against a search through all lengths."""

import random
import unittest

from foldplans.walks import greatest_total
from tests.samples import Soon


def greatest_up_to(ways, ends, length):
    """The greatest total of the walks of at most so many steps."""
    totals = {0: 0}
    found = []
    for _ in range(length + 1):
        found += [total + ends[node] for node, total in totals.items() if ends[node] is not None]
        after = {}
        for node, total in totals.items():
            for target, gain in ways[node]:
                after[target] = max(total + gain, after.get(target, total + gain))
        totals = after
    return max(found)


class TestGreatestTotal(unittest.TestCase):
    def test_graphs_that_are_drawn(self):
        draw = random.Random(1)
        seen = {True: 0, False: 0}
        for _ in range(1500):
            many = draw.randrange(1, 7)
            gains = draw.choice(([0, 1], [-2, -1, 0, 1], [-1, 0], [-3, 1, 2]))
            ways = [[(draw.randrange(many), draw.choice(gains)) for _ in range(draw.randrange(4))] for _ in range(many)]
            ends = [draw.randrange(-2, 3) for _ in range(many)]
            found = greatest_total(ways, ends)
            short = greatest_up_to(ways, ends, many)
            if greatest_up_to(ways, ends, 40 * many) > short:
                self.assertIs(found, None)
            else:
                self.assertEqual(found, short)
            seen[found is None] += 1
        self.assertGreater(min(seen.values()), 300)

    def test_walks_that_end_at_some_nodes_alone(self):
        ways = [[(1, 5), (2, 0)], [(2, -3)], [(0, -2)]]
        self.assertEqual(greatest_total(ways, [0, None, None]), 0)
        self.assertEqual(greatest_total(ways, [None, None, 1]), 3)
        self.assertEqual(greatest_total(ways, [None, 0, 9]), 11)
        self.assertIs(greatest_total([[(1, 5), (2, 0)], [(2, -3)], [(0, -1)]], [0, 0, 0]), None)

    def test_nodes_that_are_improved_many_times(self):
        # The more steps a way has, the greater its total, so that the greatest ones come last.
        many = 60
        ways = [[(later, 1) for later in range(node + 1, many)] for node in range(many)]
        with Soon():
            self.assertEqual(greatest_total(ways, [0] * many), many - 1)
            self.assertEqual(greatest_total([[*row, (0, -many)] for row in ways], [0] * many), many - 1)
            self.assertIs(greatest_total(ways[:-1] + [[(0, 2 - many)]], [0] * many), None)
            self.assertEqual(greatest_total(ways[:-1] + [[(0, 1 - many)]], [0] * many), many - 1)


if __name__ == "__main__":
    unittest.main()
