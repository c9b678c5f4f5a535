"""Heights of trees and of the results of loops, against all rows up to a length."""

import unittest

from foldplans.errors import BadCount
from foldplans.heights import greatest_height, height, high_rows
from foldplans.loops import Loop
from foldplans.makers import back_fold, blocks, by_tag, earliest, fold, joined, lanes, latest, restarting, without
from tests.loop_texts import DOUBLED, SILENT
from tests.pairs_of_loops import drawn_pairs, rows_over
from tests.samples import Soon, even_tree, left_comb, right_comb


def high(tree):
    """The height of a tree; -1 for no result."""
    if tree is None:
        return -1
    return 1 + max(high(tree[0]), high(tree[1])) if isinstance(tree, tuple) else 0


class TestHeights(unittest.TestCase):
    def test_trees(self):
        self.assertEqual([height(0), height((0, 0)), height(((0, 1), 2)), height((3, (1, 2)))], [0, 1, 2, 2])
        self.assertEqual(height(((0, 1), (2, (3, 4)))), 3)
        self.assertEqual(height(even_tree(range(256))), 8)
        self.assertEqual([height(left_comb(range(300))), height(right_comb(range(300)))], [299, 299])

    def test_drawn_loops(self):
        bounded = 0
        for number, _, p, _ in drawn_pairs(range(500)):
            rows = rows_over(p.tags)
            heights = [high(p.tree(row)) for row in rows]
            told = greatest_height(p)
            for h in (0, 1, 2, 4):
                found = high_rows(p, h)
                self.assertEqual(found.tags, p.tags)
                self.assertEqual([row for row in rows if row in found],
                                 [row for row, many in zip(rows, heights) if many > h], number)
                if told is not None:
                    self.assertEqual(bool(found), told > h)
                else:
                    self.assertTrue(found)
            if told is not None:
                bounded += 1
                self.assertGreaterEqual(told, max([0, *heights]))
                self.assertFalse(high_rows(p, told))
                self.assertTrue(told == 0 or high_rows(p, told - 1))
        self.assertGreater(bounded, 50)

    def test_makers(self):
        tags = ["t", "u"]
        for loop in (fold(tags), back_fold(tags), lanes(tags, 3), blocks(tags, 2), by_tag(tags)):
            self.assertIs(greatest_height(loop), None)
        self.assertEqual([greatest_height(earliest(tags, k)) for k in range(1, 7)], [0, 1, 2, 3, 4, 5])
        self.assertEqual([greatest_height(latest(tags, k)) for k in range(1, 7)], [0, 1, 2, 3, 4, 5])
        self.assertEqual(greatest_height(joined(latest(tags, 3), earliest(tags, 4))), 4)
        self.assertIs(greatest_height(restarting(fold(tags), "u")), None)
        self.assertEqual(greatest_height(without(latest(["t"], 3), "t")), 0)
        self.assertEqual([greatest_height(Loop(SILENT)), greatest_height(Loop(DOUBLED))], [0, 0])

    def test_a_sum_that_grows_but_comes_into_no_result(self):
        text = "tags t\nsums a b\nstate s\non t go r\na = x\nb = x\nend none\nstate r\non t go r\na = a + x\nend b"
        self.assertEqual(greatest_height(Loop(text)), 0)
        self.assertIs(greatest_height(Loop(text.replace("end b", "end a"))), None)
        unreached = text + "\nstate q\non t go q\na = a + x\nend a"
        self.assertEqual(greatest_height(Loop(unreached.replace("end a", "end none"))), 0)

    def test_high_rows_of_great_height(self):
        with Soon():
            for h in (0, 7, 29, 30):
                found = high_rows(fold(["t", "u"]), h)
                self.assertEqual([found.how_many(h + 1), found.how_many(h + 2)], [0, 2 ** (h + 2)])
                self.assertEqual(len(found.earliest()), h + 2)

    def test_errors(self):
        for h in (-1, 31, 1000):
            with self.assertRaises(BadCount) as caught:
                high_rows(fold(["t"]), h)
            self.assertEqual(caught.exception.count, h)


if __name__ == "__main__":
    unittest.main()
