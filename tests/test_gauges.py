"""The tables of gauges, against what their values stand for."""

import unittest
from itertools import product

from foldplans.gauges import gauge_for, gauge_of_table, parts_of
from foldplans.gaugetables import TABLES
from foldplans.rules import all_kinds, rules_of
from foldplans.tables import Table, table_of_rows

TOO_MUCH = "!"


def limited(text, most):
    return TOO_MUCH if TOO_MUCH in text or any(text.count(mark) > most for mark in "12") else text


def pairs(one, two):
    if not one or not two:
        return one + two
    if TOO_MUCH in one + two or set(one) & set(two) & set("123"):
        return TOO_MUCH
    return f"({min(one, two)}{max(one, two)})"


# How two values are put together; a value is written as in foldplans/gaugetables.py.
JOINS = {
    "pairs": pairs,
    "words": lambda one, two: limited(one + two, 1),
    "long words": lambda one, two: limited(one + two, 2),
    "bags": lambda one, two: (one + two)[:2],
    "parity": lambda one, two: "" if one == two else "1",
    "heads": lambda one, two: one + "".join(mark for mark in two if mark not in one),
    "tails": lambda one, two: "".join(mark for mark in one if mark not in two) + two,
    "sets": lambda one, two: "1" if one or two else "",
    "lefts": lambda one, two: one,
    "rights": lambda one, two: two,
    "one": lambda one, two: one,
}
MARKS = {"pairs": "123", "words": "12", "long words": "12", "heads": "12", "tails": "12", "one": ""}


def kind_of(name):
    return "words" if name == "long words" else name


def values_of(name):
    """The values of a table, by its entries: the first ones are no mark and the marks."""
    _, rows = TABLES[name]
    found = dict(enumerate(["", *MARKS.get(name, "1")]))
    while len(found) < len(rows):
        for a, b in product(sorted(found), repeat=2):
            found.setdefault(rows[a][b], JOINS[name](found[a], found[b]))
    return found


class TestTables(unittest.TestCase):
    def test_entries_and_marks(self):
        self.assertEqual(set(TABLES), set(JOINS))
        for name, (marks, rows) in TABLES.items():
            values = values_of(name)
            self.assertEqual(sorted(values), list(range(len(rows))))
            self.assertEqual(len(set(values.values())), len(rows))
            for a, b in product(values, repeat=2):
                self.assertEqual(values[rows[a][b]], JOINS[name](values[a], values[b]), (name, a, b))
            for number, value in values.items():
                self.assertEqual(marks[number], "".join(mark for mark in "123" if mark in value))

    def test_they_keep_the_rules_and_nothing_is_added_by_0(self):
        for name, (_, rows) in TABLES.items():
            table = table_of_rows(rows)
            self.assertEqual(table, Table.of(len(rows), lambda a, b: rows[a][b]))
            for rule in rules_of(kind_of(name)):
                self.assertIs(table.breaks(rule), None)
            if name not in ("lefts", "rights"):
                self.assertEqual([rows[0][k] for k in range(len(rows))], list(range(len(rows))))
                self.assertEqual([rows[k][0] for k in range(len(rows))], list(range(len(rows))))

    def test_a_table_of_rows_is_new(self):
        rows = [[0, 1], [1, 1]]
        table = table_of_rows(rows)
        table[0, 0] = 1
        self.assertEqual(rows, [[0, 1], [1, 1]])


class TestGauges(unittest.TestCase):
    def test_each_kind_has_gauges(self):
        for kind in all_kinds():
            for part in parts_of(kind):
                for is_single in (True, False):
                    gauge = gauge_for(part, is_single, True)
                    self.assertLessEqual(len(gauge.rows), 30)
                    self.assertEqual(gauge.many_letters, 1 + len(MARKS.get(part, "1")))
        self.assertEqual(len(gauge_for("words", False, True).rows), 20)

    def test_what_items_may_get(self):
        self.assertEqual(gauge_for("one", True, True).supply, [[(0, 0)]])
        self.assertEqual(gauge_for("sets", True, True).supply, [[(0, 0), (1, 1)], [(0, 1)]])
        self.assertEqual(gauge_for("heads", True, True).supply, [[(0, 0), (1, 1)], [(0, 1), (2, 2)], [(0, 2)]])
        supply = gauge_for("pairs", True, False).supply
        self.assertEqual(supply[0], [(0, 0), (1, 1), (2, 2), (3, 4)])
        self.assertEqual(supply[5], [(0, 5), (2, 7)])
        self.assertEqual(supply[7], [(0, 7)])

    def test_the_gauge_of_a_table(self):
        gauge = gauge_of_table(Table.of(3, max))
        self.assertEqual(gauge.rows, [[0, 1, 2], [1, 1, 2], [2, 2, 2]])
        self.assertEqual(gauge.supply, [[(0, 0), (1, 0), (2, 0)]])
        self.assertEqual(gauge.many_letters, 3)


if __name__ == "__main__":
    unittest.main()
