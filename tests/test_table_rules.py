"""Which rules tables keep, against the equations asked for all values."""

import unittest

from foldplans.errors import NoRule
from foldplans.rules import all_rules, rules_of
from foldplans.tables import Table
from tests.kinds_table import RULES, kind_of
from tests.samples import Soon
from tests.tables_by_hand import drawn, first_break, kept, made, structured

BIG = {
    "bags": lambda a, b: (a + b) % 60,
    "sets": max,
    "lefts": lambda a, b: a,
    "rights": lambda a, b: b,
    "outer": lambda a, b: a // 10 * 10 + b % 10,
    "heads": lambda a, b: a or b,
    "tails": lambda a, b: b or a,
    "pairs": lambda a, b: 2 * (a + b) % 60,
}


class TestRules(unittest.TestCase):
    def check(self, table):
        told = kept(table)
        self.assertEqual(table.rules(), told, str(table))
        self.assertEqual(table.kind, kind_of(told), str(table))
        for rule in RULES:
            self.assertEqual(table.breaks(rule), first_break(table, rule), (rule, str(table)))
        return table.kind

    def test_all_tables_of_one_and_two_values(self):
        self.assertEqual(self.check(Table(1)), "one")
        found = {self.check(made(2, code)) for code in range(16)}
        self.assertEqual(found, {"trees", "pairs", "bags", "parity", "sets", "lefts", "rights"})

    def test_many_tables_of_three_values(self):
        for code in range(0, 3 ** 9, 23):
            self.check(made(3, code))

    def test_tables_that_keep_many_rules(self):
        found = {self.check(table) for table in structured()}
        self.assertTrue({"one", "sets", "bags", "parity", "lefts", "rights", "outer", "heads", "tails"} <= found)
        self.assertIn("middles", found)

    def test_larger_tables_that_are_drawn(self):
        for number in range(20):
            self.check(drawn(4 + number % 4, number))

    def test_the_first_triple_by_x_then_y_then_z(self):
        for table in structured():
            for a in range(table.size):
                changed = table.copied()
                changed[a, table.size - 1 - a] = (table[a, table.size - 1 - a] + 1) % table.size
                self.check(changed)

    def test_the_triple_is_a_plain_tuple(self):
        found = Table.of(2, lambda a, b: 1 - a).breaks("grouping")
        self.assertEqual([found, type(found)], [(0, 0, 0), tuple])

    def test_the_lists_are_new(self):
        table = Table.of(2, max)
        table.rules().clear()
        self.assertEqual(table.rules(), rules_of("sets"))

    def test_a_changed_entry_asked_again(self):
        table = Table.of(3, max)
        self.assertEqual([table.kind, table.breaks("order"), table.rules()], ["sets", None, rules_of("sets")])
        table[1, 2] = 0
        self.assertEqual([table.breaks("order"), table.breaks("first")], [(1, 2, 0), first_break(table, "first")])
        self.check(table)
        table[2, 1] = 0
        self.assertIs(table.breaks("order"), None)
        self.check(table)
        table[1, 2] = table[2, 1] = 2
        self.assertEqual([table.kind, table.rules()], ["sets", rules_of("sets")])

    def test_no_rule(self):
        for name in ("", "sets", "trees", "Order", "order ", "none"):
            for table in (Table(1), Table.of(3, max)):
                with self.assertRaises(NoRule) as caught:
                    table.breaks(name)
                self.assertEqual(caught.exception.name, name)

    def test_the_kind_cannot_be_assigned(self):
        with self.assertRaises(AttributeError):
            Table(2).kind = "sets"


class TestSixtyValues(unittest.TestCase):
    def test_soon(self):
        for kind, operation in BIG.items():
            table = Table.of(60, operation)
            with Soon(5):
                found = [table.rules(), table.kind, [table.breaks(rule) for rule in all_rules()]]
            self.assertEqual([rule for rule, at in zip(all_rules(), found[2]) if at is None], found[0])
            self.assertEqual(found[:2], [rules_of(kind), kind])

    def test_the_last_entry_changed(self):
        table = Table.of(60, max)
        table[59, 59] = 3
        with Soon(5):
            self.assertEqual(table.breaks("order"), None)
            self.assertEqual(table.breaks("grouping"), (4, 59, 59))
            self.assertEqual(table.breaks("first"), (4, 59, 59))
        table[59, 59] = 59
        table[58, 59] = 58
        with Soon(5):
            self.assertEqual([table.breaks("order"), table.kind], [(58, 59, 0), "heads"])


if __name__ == "__main__":
    unittest.main()
