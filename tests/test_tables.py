"""Tables: entries, written forms, new tables made of tables."""

import unittest

from foldplans.errors import BadSize, BadTable, BadValue
from foldplans.tables import Table
from tests.samples import Soon
from tests.tables_by_hand import drawn

HUGE = 10 ** 300


def entries(table):
    return [[table[a, b] for b in range(table.size)] for a in range(table.size)]


class TestSizes(unittest.TestCase):
    def test_all_entries_are_0(self):
        for size in (1, 2, 17, 60):
            table = Table(size)
            self.assertEqual([table.size, entries(table)], [size, [[0] * size] * size])

    def test_sizes_out_of_range(self):
        for size in (0, -1, 61, 62, 1000, HUGE, -HUGE):
            for call in (lambda: Table(size), lambda: Table.of(size, lambda a, b: -1)):
                with self.assertRaises(BadSize) as caught:
                    call()
                self.assertEqual(caught.exception.size, size)


class TestOf(unittest.TestCase):
    def test_the_entries_of_an_operation(self):
        for size in (1, 3, 60):
            table = Table.of(size, lambda a, b: (2 * a + 3 * b) % size)
            self.assertEqual(entries(table), [[(2 * a + 3 * b) % size for b in range(size)] for a in range(size)])

    def test_a_table_as_the_operation(self):
        table = drawn(5, 1)
        self.assertTrue(Table.of(5, table) == table)

    def test_the_first_wrong_value(self):
        for size, wrong in ((1, 1), (3, 3), (3, -1), (60, 60), (3, HUGE)):
            for first in range(0, size * size, max(1, size * size // 7)):
                with self.assertRaises(BadValue) as caught:
                    Table.of(size, lambda a, b: wrong + (a * size + b - first) if a * size + b >= first else 0)
                self.assertEqual(caught.exception.value, wrong)


class TestEntries(unittest.TestCase):
    def test_reading_calling_changing(self):
        table = Table(3)
        table[0, 2] = 1
        table[2, 0] = 2
        self.assertEqual([table[0, 2], table(0, 2), table[2, 0], table(2, 0)], [1, 1, 2, 2])
        self.assertEqual(entries(table), [[0, 0, 1], [0, 0, 0], [2, 0, 0]])
        table[0, 2] = 0
        self.assertEqual(table[0, 2], 0)

    def test_rows_are_not_shared(self):
        table = Table(2)
        table[0, 0] = 1
        self.assertEqual(entries(table), [[1, 0], [0, 0]])

    def test_the_first_wrong_value_of_two(self):
        table = Table(3)
        for a, b, told in ((3, 0, 3), (0, 3, 3), (-1, 5, -1), (5, -1, 5), (2, -3, -3), (HUGE, 0, HUGE)):
            for call in (lambda: table[a, b], lambda: table(a, b)):
                with self.assertRaises(BadValue) as caught:
                    call()
                self.assertEqual(caught.exception.value, told)

    def test_the_first_wrong_value_of_three_and_nothing_changes(self):
        table = drawn(3, 1)
        before = entries(table)
        for a, b, c, told in (
            (3, 0, 0, 3), (0, 3, 0, 3), (0, 0, 3, 3), (-1, 7, 8, -1), (0, 7, 8, 7), (1, 2, -1, -1), (2, 2, HUGE, HUGE),
            (4, 5, 0, 4), (4, 0, 5, 4), (-3, 0, 0, -3),
        ):
            with self.assertRaises(BadValue) as caught:
                table[a, b] = c
            self.assertEqual(caught.exception.value, told)
            self.assertEqual(entries(table), before)

    def test_equality(self):
        self.assertTrue(Table(2) == Table(2))
        self.assertTrue(Table(2) != Table(3))
        table = Table(2)
        table[1, 1] = 1
        self.assertTrue(table != Table(2))
        table[1, 1] = 0
        self.assertFalse(table != Table(2))
        for other in (None, 0, [[0, 0], [0, 0]], "0 0\n0 0"):
            self.assertFalse(Table(2) == other)


class TestWrittenForm(unittest.TestCase):
    def refused(self, text, line):
        with self.assertRaises(BadTable) as caught:
            Table.read(text)
        self.assertEqual(caught.exception.line, line, text[:200])

    def test_str_and_back(self):
        self.assertEqual(str(Table(1)), "0")
        self.assertEqual(str(Table.of(3, max)), "0 1 2\n1 1 2\n2 2 2")
        for size in (1, 2, 11, 60):
            table = drawn(size, size)
            text = "\n".join(" ".join(str(entry) for entry in row) for row in entries(table))
            self.assertEqual(str(table), text)
            self.assertTrue(Table.read(text) == table)
            self.assertEqual(Table.read(text).size, size)

    def test_what_is_read_can_be_changed(self):
        table = Table.read("0 1\n1 0")
        table[1, 1] = 1
        self.assertEqual(str(table), "0 1\n1 1")

    def test_each_line_wrong(self):
        lines = str(drawn(11, 3)).split("\n")
        for number in range(1, 12):
            words = lines[number - 1].split(" ")
            for wrong in (words[:-1], words + ["0"], words[:10] + ["11"], ["-1"] + words[1:], ["a"] + words[1:],
                          words[:10] + ["00"], words[:10] + ["01"], ["+1"] + words[1:], ["1.0"] + words[1:], [],
                          words[:5] + [""] + words[5:], words + [""], [""] + words, words[:10] + [""], ["0"],
                          words[:10] + [str(HUGE)], words[:10] + ["010"], words[:10] + ["-0"], words[:10] + ["1_0"]):
                self.refused("\n".join(lines[:number - 1] + [" ".join(wrong)] + lines[number:]), number)

    def test_the_first_wrong_line(self):
        self.refused("0 1\n0\n0 0", 1)
        self.refused("0 1 2\n0\n0", 2)
        self.refused("0 1 2\n0 3 0\n0", 2)
        self.refused("0 1\n1 0\n", 1)
        self.refused("1", 1)

    def test_empty_texts_and_lines(self):
        self.refused("", 1)
        self.refused("\n", 1)
        self.refused("0\n", 1)
        self.refused("\n0", 1)
        self.refused("0 0 0\n0 1 0\n", 3)
        self.refused("0 0 0\n\n0 1 0", 2)
        self.refused(" ", 1)

    def test_line_61(self):
        for many in (61, 62, 100, 1000):
            rows = [" ".join(["0"] * many)] * many
            self.refused("\n".join(rows), 61)
            self.refused("\n".join(rows[:60] + ["wrong"] + rows[61:]), 61)
            self.refused("\n".join(rows[:59] + ["wrong"] + rows[60:]), 60)
            self.refused("\n".join(rows[:60]) + "\n" + "\n".join(["0"] * (many - 60)), 61)
        self.refused("\n".join([" ".join(["0"] * 60)] * 61), 1)
        self.assertEqual(Table.read("\n".join([" ".join(["59"] * 60)] * 60)).size, 60)


class TestNewTables(unittest.TestCase):
    def test_copied_and_exchanged(self):
        table = drawn(4, 2)
        copy, other = table.copied(), ~table
        self.assertTrue(copy == table)
        self.assertEqual(entries(other), [[table[b, a] for b in range(4)] for a in range(4)])
        self.assertTrue(~other == table)
        self.assertTrue(~Table(1) == Table(1))

    def test_pairs(self):
        for left, right in ((2, 3), (3, 2), (1, 4), (4, 1), (6, 10), (60, 1), (1, 60)):
            one, two = drawn(left, 5), drawn(right, 6)
            pairs = one * two
            self.assertEqual(pairs.size, left * right)
            for v in range(pairs.size):
                for w in range(pairs.size):
                    told = one[v // right, w // right] * right + two[v % right, w % right]
                    self.assertEqual(pairs[v, w], told)

    def test_too_many_pairs(self):
        for left, right in ((61, 1), (8, 8), (60, 2), (2, 31), (60, 60)):
            if left <= 60:
                with self.assertRaises(BadSize) as caught:
                    Table(left) * Table(right)
                self.assertEqual(caught.exception.size, left * right)

    def test_they_go_their_own_ways(self):
        table = Table.of(3, max)
        text = str(table)
        for make in (table.copied, lambda: ~table, lambda: table * Table(1), lambda: Table(1) * table,
                     lambda: table.part([0, 1, 2]), lambda: Table.of(3, table), lambda: Table.read(text)):
            new = make()
            self.assertEqual(str(new), text)
            new[2, 1] = 0
            self.assertEqual([str(table), str(make())], [text, text])
            table[0, 0] = 1
            self.assertEqual(new[0, 0], 0)
            table[0, 0] = 0

    def test_the_kinds_of_new_tables(self):
        heads = Table.of(3, lambda a, b: a or b)
        self.assertEqual([heads.kind, (~heads).kind, (heads * ~heads).kind], ["heads", "tails", "middles"])
        self.assertEqual((Table.of(3, max) * Table.of(2, lambda a, b: a ^ b)).kind, "bags")

    def test_soon(self):
        table = drawn(60, 7)
        with Soon():
            for _ in range(20):
                self.assertTrue(~~table == table.copied() * Table(1))


if __name__ == "__main__":
    unittest.main()
