import unittest

from foldplans.errors import NoKind
from foldplans.rules import all_kinds
from foldplans.trees import do_agree, letters, value_of
from tests.samples import Soon, even_tree, left_comb, right_comb, trees_over

BIG = 10 ** 200


def bracketed(left, right):
    return f"({left} {right})"


class TestLetters(unittest.TestCase):
    def test_from_left_to_right_with_repetitions(self):
        self.assertEqual(letters(((0, 1), 2)), [0, 1, 2])
        self.assertEqual(letters((0, (1, 2))), [0, 1, 2])
        self.assertEqual(letters(((2, 0), ((1, 0), 2))), [2, 0, 1, 0, 2])

    def test_a_number_alone(self):
        self.assertEqual([letters(0), letters(7), letters(-3)], [[0], [7], [-3]])

    def test_numbers_below_0_and_of_many_digits(self):
        self.assertEqual(letters(((-1, BIG), (-BIG, -1))), [-1, BIG, -BIG, -1])

    def test_the_list_is_new(self):
        tree = ((0, 1), 2)
        found = letters(tree)
        found.append(9)
        self.assertEqual([letters(tree), tree], [[0, 1, 2], ((0, 1), 2)])

    def test_trees_of_300_letters(self):
        row = list(range(-100, 200))
        for tree in (left_comb(row), right_comb(row), (left_comb(row[:150]), right_comb(row[150:]))):
            with Soon():
                self.assertEqual(letters(tree), row)
        row = [k * k % 17 for k in range(256)]
        self.assertEqual(letters(even_tree(row)), row)


class TestValueOf(unittest.TestCase):
    def test_brackets_and_sides(self):
        values = ["a", "b", "c"]
        self.assertEqual(value_of(((0, 1), 2), values, bracketed), "((a b) c)")
        self.assertEqual(value_of((0, (1, 2)), values, bracketed), "(a (b c))")
        self.assertEqual(value_of(((2, 0), (1, 0)), values, bracketed), "((c a) (b a))")

    def test_the_left_value_is_the_first_argument(self):
        self.assertEqual(value_of((0, 1), [10, 3], lambda x, y: x - y), 7)
        self.assertEqual(value_of((1, 0), [10, 3], lambda x, y: x - y), -7)

    def test_a_number_alone_is_not_put_together(self):
        self.assertEqual(value_of(1, ["a", "b"], None), "b")

    def test_values_of_other_forms(self):
        self.assertEqual(value_of((1, 0), ("a", "b"), bracketed), "(b a)")
        self.assertEqual(value_of((-7, (BIG, -7)), {-7: "a", BIG: "b"}, bracketed), "(a (b a))")

    def test_values_may_be_tuples_and_count_as_nothing(self):
        values = [(), (1,), 0]
        self.assertEqual(value_of(((0, 1), 0), values, lambda x, y: x + y), (1,))
        self.assertEqual(value_of((2, 2), values, lambda x, y: x + y), 0)

    def test_once_for_each_join(self):
        calls = []
        value_of(((0, 1), (2, 0)), ["a", "b", "c"], lambda x, y: calls.append((x, y)) or x + y)
        self.assertEqual(sorted(calls), [("a", "b"), ("ab", "ca"), ("c", "a")])

    def test_values_are_not_changed(self):
        values = ["a", "b"]
        value_of((0, (1, 1)), values, bracketed)
        self.assertEqual(values, ["a", "b"])

    def test_an_error_of_the_operation_goes_on(self):
        with self.assertRaises(ZeroDivisionError):
            value_of((0, 1), [1, 0], lambda x, y: x // y)

    def test_trees_of_300_letters(self):
        row = list(range(300))
        left, right = "0", "299"
        for k in range(1, 300):
            left, right = f"({left} {k})", f"({299 - k} {right})"
        with Soon():
            self.assertEqual(value_of(left_comb(row), row, bracketed), left)
            self.assertEqual(value_of(right_comb(row), row, bracketed), right)
            self.assertEqual(value_of(even_tree(row[:256]), row, lambda x, y: x + y), 255 * 128)


def joined_firsts(x, y):
    return x + "".join(letter for letter in y if letter not in x)


def joined_lasts(x, y):
    return "".join(letter for letter in x if letter not in y) + y


def joined_pairs(x, y):
    return "(" + "".join(sorted([x, y])) + ")"


# For each kind an operation of which the letters "a", "b", "c" give different values wherever
# some operation of the kind does.
FREE = {
    "trees": (str, bracketed),
    "pairs": (str, joined_pairs),
    "words": (str, lambda x, y: x + y),
    "bags": (str, lambda x, y: "".join(sorted(x + y))),
    "parity": (lambda letter: frozenset([letter]), lambda x, y: x ^ y),
    "middles": (
        lambda letter: (letter, letter),
        lambda x, y: (joined_firsts(x[0], y[0]), joined_lasts(x[1], y[1])),
    ),
    "heads": (str, joined_firsts),
    "tails": (str, joined_lasts),
    "sets": (lambda letter: frozenset([letter]), lambda x, y: x | y),
    "outer": (lambda letter: (letter, letter), lambda x, y: (x[0], y[1])),
    "lefts": (str, lambda x, y: x),
    "rights": (str, lambda x, y: y),
    "one": (lambda letter: 0, lambda x, y: 0),
}


def free_value(tree, values, operation):
    if isinstance(tree, tuple):
        left, right = [free_value(side, values, operation) for side in tree]
        return operation(left, right)
    return values[tree]


class TestAllSmallTrees(unittest.TestCase):
    def check(self, alphabet, most):
        trees = trees_over(alphabet, most)
        for kind in all_kinds():
            letter, operation = FREE[kind]
            values = {number: letter(text) for number, text in zip(alphabet, "abc")}
            found = [free_value(tree, values, operation) for tree in trees]
            for one, left in zip(trees, found):
                for two, right in zip(trees, found):
                    self.assertIs(do_agree(one, two, kind), left == right, (one, two, kind))

    def test_two_letters(self):
        self.check([0, -1], 4)

    def test_three_letters(self):
        self.check([-2, BIG, 5], 3)


class TestNoKind(unittest.TestCase):
    def test_no_kind(self):
        for text in ("", "order", "keep", "Words", "words ", "tree"):
            for one, two in ((0, 1), (0, 0), ((0, 1), (0, 1))):
                with self.assertRaises(NoKind) as caught:
                    do_agree(one, two, text)
                self.assertEqual(caught.exception.name, text)


if __name__ == "__main__":
    unittest.main()
