import unittest

from foldplans.rules import all_kinds
from foldplans.trees import do_agree
from tests.samples import Soon, even_tree, left_comb, right_comb, turned

ALL = "trees pairs words bags parity middles heads tails sets outer lefts rights one"
BIG = 10 ** 99

# Two trees, and the kinds under which they agree.
EXAMPLES = (
    (0, 0, ALL),
    (0, 1, "one"),
    (-1, 1, "one"),
    ((0, 1), (0, 1), ALL),
    ((-1, (BIG, 0)), (-1, (BIG, 0)), ALL),
    ((0, 1), (1, 0), "pairs bags parity sets one"),
    (((0, 1), 2), (0, (1, 2)), "words bags parity middles heads tails sets outer lefts rights one"),
    (((0, 1), 2), (2, (1, 0)), "pairs bags parity sets one"),
    (((0, 1), 2), ((0, 2), 1), "bags parity sets lefts one"),
    (((0, 1), 2), ((1, 0), 2), "pairs bags parity sets rights one"),
    ((0, 0), 0, "middles heads tails sets outer lefts rights one"),
    (((0, 0), 0), 0, "parity middles heads tails sets outer lefts rights one"),
    (((0, 0), 1), 1, "parity rights one"),
    ((1, (0, 0)), 1, "parity lefts one"),
    ((0, (1, 0)), 0, "outer lefts rights one"),
    ((0, (1, 0)), (0, 1), "heads sets lefts one"),
    ((0, (1, 0)), (1, 0), "tails sets rights one"),
    (((0, 1), (0, (2, 0))), ((0, 1), (2, 0)), "middles heads tails sets outer lefts rights one"),
    (((0, 1), 2), (0, 2), "outer lefts rights one"),
    (((0, 1), (2, 3)), ((3, 2), (0, 1)), "pairs bags parity sets one"),
    (((0, 1), (2, 3)), ((0, 2), (1, 3)), "bags parity sets outer lefts rights one"),
    ((0, (0, (0, 1))), (0, 1), "parity middles heads tails sets outer lefts rights one"),
    ((-5, (BIG, -5)), ((BIG, -5), -5), "pairs bags parity tails sets rights one"),
    (((0, 1), (2, 3)), (4, 5), "one"),
)


class TestExamples(unittest.TestCase):
    def test_both_ways_round(self):
        for one, two, listed in EXAMPLES:
            for kind in all_kinds():
                for left, right in ((one, two), (two, one)):
                    self.assertIs(do_agree(left, right, kind), kind in listed.split(), (left, right, kind))


class TestLargeTrees(unittest.TestCase):
    def agreeing(self, one, two):
        with Soon():
            told = [kind for kind in all_kinds() if do_agree(one, two, kind)]
            self.assertEqual(told, [kind for kind in all_kinds() if do_agree(two, one, kind)])
        return told

    def test_combs_with_their_sides_turned(self):
        for many in (150, 300):
            row = list(range(-20, many - 20))
            comb = left_comb(row)
            for every in (1, 2, 3, 7):
                other = turned(comb, every)
                self.assertNotEqual(other, comb)
                self.assertTrue({"pairs", "bags", "sets"} <= set(self.agreeing(comb, other)))
                self.assertFalse({"trees", "words"} & set(self.agreeing(comb, other)))
            self.assertEqual(turned(comb, 1), right_comb(row[::-1]))
            self.assertIn("words", self.agreeing(comb, right_comb(row)))
            self.assertNotIn("pairs", self.agreeing(comb, right_comb(row)))

    def test_combs_that_differ_deep_down(self):
        row = list(range(300))
        comb = left_comb(row)
        exchanged = left_comb([2, 1, 0] + row[3:])
        self.assertEqual(self.agreeing(comb, exchanged), ["bags", "parity", "sets", "rights", "one"])
        self.assertIn("pairs", self.agreeing(comb, left_comb([1, 0] + row[2:])))
        self.assertEqual(self.agreeing(comb, left_comb([-1] + row[1:])), ["rights", "one"])

    def test_equal_combs_that_are_different_objects(self):
        row = [k % 3 for k in range(300)]
        self.assertEqual(self.agreeing(left_comb(row), left_comb(list(row))), all_kinds())
        self.assertEqual(self.agreeing(right_comb(row), right_comb(list(row))), all_kinds())

    def test_even_trees_with_sides_exchanged(self):
        for row in (list(range(256)), [k % 2 for k in range(256)], [k * k % 11 - 5 for k in range(256)]):
            tree = even_tree(row)
            for every in (1, 2, 3, 5, 64):
                other = turned(tree, every)
                self.assertIn("pairs", self.agreeing(tree, other))
                changed = turned(even_tree(row[:-1] + [999]), every)
                self.assertNotIn("pairs", self.agreeing(tree, changed))
        self.assertNotIn("trees", self.agreeing(even_tree(range(256)), turned(even_tree(range(256)), 2)))

    def test_even_trees_of_equal_letters(self):
        tree = even_tree([0] * 256)
        self.assertEqual(self.agreeing(tree, even_tree([0] * 256)), all_kinds())
        self.assertNotIn("pairs", self.agreeing(tree, left_comb([0] * 256)))
        self.assertIn("words", self.agreeing(tree, left_comb([0] * 256)))

    def test_letters_exchanged_across_an_even_tree(self):
        row = list(range(256))
        other = [128] + row[1:128] + [0] + row[129:]
        told = self.agreeing(even_tree(row), even_tree(other))
        self.assertEqual(told, ["bags", "parity", "sets", "rights", "one"])


if __name__ == "__main__":
    unittest.main()
