"""Where trees differ in a table, what values generate, and parts of tables."""

import random
import unittest
from itertools import product

from foldplans.errors import BadSize, BadValue, NotClosed
from foldplans.tables import Table
from foldplans.trees import letters
from tests.samples import Soon, left_comb, right_comb, trees_over
from tests.tables_by_hand import drawn, made, structured


def value(table, tree, values):
    if isinstance(tree, tuple):
        return table[value(table, tree[0], values), value(table, tree[1], values)]
    return values[tree]


def first_unlike(table, one, two):
    """The first values for which two trees differ, or None."""
    for values in product(range(table.size), repeat=max(letters(one) + letters(two)) + 1):
        if value(table, one, values) != value(table, two, values):
            return values
    return None


def closure(table, values):
    found = set(values)
    while True:
        more = found | {table[a, b] for a in found for b in found}
        if more == found:
            return sorted(found)
        found = more


class TestUnlikeAt(unittest.TestCase):
    def check(self, table, one, two):
        found = table.unlike_at(one, two)
        self.assertEqual(found, first_unlike(table, one, two), (str(table), one, two))
        return found

    def test_small_trees_over_two_letters(self):
        trees = trees_over([0, 1], 3)
        for table in [made(2, code) for code in range(16)] + list(structured())[:6]:
            for one in trees:
                for two in trees:
                    self.check(table, one, two)

    def test_trees_that_are_drawn(self):
        draw = random.Random(5)
        trees = trees_over([0, 1, 2], 4) + trees_over([1, 3], 3) + trees_over([0, 2, 3], 3) + [3]
        tables = [drawn(2 + number % 3, number) for number in range(30)] + [t for t in structured() if t.size < 7]
        none = 0
        for table in tables:
            for _ in range(80):
                one, two = draw.choice(trees), draw.choice(trees)
                none += self.check(table, one, two) is None
        self.assertGreater(none, 50)

    def test_letters_that_do_not_occur(self):
        table = Table.of(3, max)
        self.assertEqual(table.unlike_at(1, 3), (0, 0, 0, 1))
        self.assertEqual(table.unlike_at((1, 3), (3, 3)), (0, 1, 0, 0))
        self.assertEqual(table.unlike_at(2, 2), None)
        self.assertEqual(Table(1).unlike_at(0, 3), None)

    def test_whole_trees_that_are_letters(self):
        for table in (Table(3), made(2, 0), made(2, 15), Table.of(4, lambda a, b: a // 2)):
            for one, two in ((0, 1), (1, 0), (0, (0, 0)), ((1, 1), 1), ((0, 1), 0), (2, (0, 1)), ((2, 1), 0)):
                self.check(table, one, two)

    def test_a_changed_entry_asked_again(self):
        table = Table.of(3, max)
        self.assertEqual(table.unlike_at((0, 1), (1, 0)), None)
        table[1, 2] = 0
        self.assertEqual(table.unlike_at((0, 1), (1, 0)), (1, 2))
        self.assertEqual(table.unlike_at((3, 2), (2, 3)), (0, 0, 1, 2))
        table[2, 1] = 0
        self.assertEqual(table.unlike_at((0, 1), (1, 0)), None)
        self.check(table, ((0, 1), 2), (0, (1, 2)))

    def test_a_plain_tuple(self):
        self.assertIs(type(Table.of(2, max).unlike_at(0, (0, 1))), tuple)

    def test_large_trees(self):
        row = [k % 4 for k in range(300)]
        for size in (2, 3):
            for table in (Table.of(size, lambda a, b: (a + b) % size), Table.of(size, max), drawn(size, 8)):
                self.check(table, left_comb(row), right_comb(row))
                self.check(table, left_comb(row), left_comb(row[1:]))
                self.check(table, left_comb(row), right_comb(row[::-1]))


class TestUnlikeAtSixtyValues(unittest.TestCase):
    TREES = (
        (((0, 1), (2, 3)), (((0, 1), 2), 3)),
        (((0, 2), (1, 3)), ((0, 1), (2, 3))),
        (((3, 1), (0, 2)), ((2, 0), (1, 3))),
    )

    def test_none_soon(self):
        for operation in (lambda a, b: (a + b) % 60, max, lambda a, b: 7):
            table = Table.of(60, operation)
            for one, two in self.TREES:
                with Soon():
                    self.assertIs(table.unlike_at(one, two), None)

    def test_none_though_no_rule_tells_it(self):
        table = Table.of(60, lambda a, b: (7 * a + 11 * b + 3) % 60)
        with Soon():
            self.assertIs(table.unlike_at(*self.TREES[1]), None)
        ring, row = Table.of(60, lambda a, b: (a + b) % 60), [0, 1, 2, 3]
        for longer in ([k for k in row for _ in range(61 if k == many else 1)] for many in row):
            with Soon():
                self.assertIs(ring.unlike_at(left_comb(longer), right_comb(row)), None)
                self.assertIs(Table(60).unlike_at(left_comb(longer), ((0, 2), (1, 3))), None)
        with Soon():
            self.assertIs(ring.unlike_at(left_comb(row * 75), right_comb(row * 15)), None)
            self.assertEqual(ring.unlike_at(left_comb(row * 75), right_comb(row * 14)), (0, 0, 0, 1))

    def test_many_questions_soon(self):
        tables = [Table.of(60, min), Table.of(60, lambda a, b: a), Table.of(60, lambda a, b: (a + b) % 60)]
        with Soon():
            for _ in range(1500):
                told = [table.unlike_at((0, 1), (1, 0)) for table in tables]
                self.assertEqual(told, [None, (0, 1), None])
                self.assertEqual([table.unlike_at((0, 0), 0) for table in tables], [None, None, (1,)])

    def test_late_values_soon(self):
        table = Table.of(60, lambda a, b: 7)
        table[59, 58] = 8
        with Soon():
            self.assertEqual(table.unlike_at(((0, 1), (2, 3)), ((0, 2), (1, 3))), None)
            self.assertEqual(table.unlike_at((3, (2, 1)), (3, 2)), (0, 0, 58, 59))
            self.assertEqual(table.unlike_at((0, 3), (3, 2)), (0, 0, 58, 59))
            self.assertEqual(table.unlike_at((0, 1), ((0, 1), (2, 3))), (59, 58, 0, 0))

    def test_trees_of_300_letters_soon(self):
        row = [k * k % 7 % 4 for k in range(300)]
        for operation in (lambda a, b: (a + b) % 60, max, lambda a, b: (a * b) % 60):
            table = Table.of(60, operation)
            with Soon():
                self.assertIs(table.unlike_at(left_comb(row), right_comb(row[::-1])), None)
                found = table.unlike_at(left_comb(row), left_comb(row[:-1]))
            if found is not None:
                one, two = left_comb(row), left_comb(row[:-1])
                self.assertNotEqual(value(table, one, found), value(table, two, found))


class TestGenerated(unittest.TestCase):
    def test_against_a_search_of_the_test(self):
        for number in range(120):
            table = drawn(2 + number % 6, number) if number % 2 else list(structured())[number % 15]
            for many in range(4):
                values = [k * number % table.size for k in range(many)]
                self.assertEqual(table.generated(values), closure(table, values))

    def test_any_order_duplicates_none_tuples(self):
        table = Table.of(6, lambda a, b: (a + b) % 6)
        self.assertEqual(table.generated([]), [])
        self.assertEqual(table.generated([4, 4, 0, 4]), [0, 2, 4])
        self.assertEqual(table.generated((3,)), [0, 3])
        self.assertEqual(table.generated([5]), [0, 1, 2, 3, 4, 5])

    def test_the_list_stays_and_the_answer_is_new(self):
        table, values = Table.of(6, max), [4, 1, 4]
        table.generated(values).append(9)
        self.assertEqual([values, table.generated(values)], [[4, 1, 4], [1, 4]])

    def test_the_first_that_is_no_value(self):
        for values, wrong in (([0, 3, 4], 3), ([-1], -1), ([2, 2, 9, -1], 9), ((5, 0), 5)):
            for call in (Table(3).generated, Table(3).part):
                with self.assertRaises(BadValue) as caught:
                    call(values)
                self.assertEqual(caught.exception.value, wrong)

    def test_a_changed_entry_asked_again(self):
        table = Table.of(4, max)
        self.assertEqual(table.generated([1, 2]), [1, 2])
        table[2, 1] = 3
        self.assertEqual(table.generated([1, 2]), [1, 2, 3])

    def test_sixty_values_soon(self):
        with Soon():
            self.assertEqual(Table.of(60, lambda a, b: (a + b) % 60).generated([1]), list(range(60)))
            self.assertEqual(Table.of(60, lambda a, b: (a + b) % 60).generated([42, 30]), list(range(0, 60, 6)))
            self.assertEqual(Table.of(60, max).generated(list(range(0, 60, 7))), list(range(0, 60, 7)))


class TestPart(unittest.TestCase):
    def test_numbered_anew(self):
        table = Table.of(6, lambda a, b: (a + b) % 6)
        self.assertEqual(str(table.part([4, 0, 2])), "0 1 2\n1 2 0\n2 0 1")
        self.assertEqual(str(table.part([3, 0, 3, 0])), "0 1\n1 0")
        self.assertEqual(str(table.part((0,))), "0")
        self.assertTrue(table.part(list(range(6))) == table)

    def test_against_a_search_of_the_test(self):
        draw = random.Random(3)
        told = {"part": 0, "not closed": 0}
        for number in range(300):
            table = drawn(2 + number % 3, number) if number % 2 else list(structured())[number % 15]
            values = [draw.randrange(table.size) for _ in range(draw.randrange(1, 5))]
            chosen = sorted(set(values))
            unclosed = [(a, b) for a in chosen for b in chosen if table[a, b] not in chosen]
            if unclosed:
                with self.assertRaises(NotClosed) as caught:
                    table.part(values)
                self.assertEqual((caught.exception.left, caught.exception.right), unclosed[0])
                told["not closed"] += 1
            else:
                part = table.part(values)
                self.assertEqual(part.size, len(chosen))
                for i, a in enumerate(chosen):
                    for j, b in enumerate(chosen):
                        self.assertEqual(chosen[part[i, j]], table[a, b])
                told["part"] += 1
        self.assertGreater(min(told.values()), 30)

    def test_the_order_of_the_errors(self):
        table = Table.of(4, lambda a, b: (a + b) % 4)
        with self.assertRaises(BadSize) as caught:
            table.part([])
        self.assertEqual(caught.exception.size, 0)
        with self.assertRaises(BadValue) as caught:
            table.part([1, 4])
        self.assertEqual(caught.exception.value, 4)
        with self.assertRaises(NotClosed) as caught:
            table.part([3, 0])
        self.assertEqual([caught.exception.left, caught.exception.right], [3, 3])

    def test_a_changed_entry_asked_again(self):
        table = Table.of(3, max)
        self.assertEqual(str(table.part([1, 2])), "0 1\n1 1")
        table[2, 2] = 0
        with self.assertRaises(NotClosed) as caught:
            table.part([2, 1])
        self.assertEqual([caught.exception.left, caught.exception.right], [2, 2])

    def test_sixty_values_soon(self):
        with Soon():
            table = Table.of(60, lambda a, b: (a + b) % 60)
            self.assertTrue(table.part(list(range(0, 60, 2))) == Table.of(30, lambda a, b: (a + b) % 30))


if __name__ == "__main__":
    unittest.main()
