import unittest

from foldplans.errors import NoKind, NoRule
from foldplans.rules import Rules, all_kinds, all_rules, rules_of
from tests.kinds_table import RULES, all_sets, implied, kept_by, kind_of, kinds

OTHER_TEXTS = ["", "trees", "words", "sets", "one", "Order", "order ", " order", "orders", "keep take", "x"]


class TestLists(unittest.TestCase):
    def test_all_rules(self):
        self.assertEqual(
            all_rules(),
            ["grouping", "order", "middle", "first", "last", "ends", "keep", "take", "vanish"],
        )

    def test_all_kinds(self):
        self.assertEqual(
            all_kinds(),
            ["trees", "pairs", "words", "bags", "parity", "middles", "heads", "tails", "sets", "outer",
             "lefts", "rights", "one"],
        )

    def test_rules_of_each_kind(self):
        table = kinds()
        self.assertEqual(len(table), 13)
        for kind in all_kinds():
            self.assertEqual(rules_of(kind), table[kind], kind)

    def test_rules_of_some_kinds_as_they_are_written(self):
        self.assertEqual(rules_of("trees"), [])
        self.assertEqual(rules_of("parity"), ["grouping", "order", "vanish"])
        self.assertEqual(rules_of("rights"), ["grouping", "middle", "last", "ends", "take"])
        self.assertEqual(rules_of("one"), all_rules())

    def test_no_kind(self):
        for text in ["", "order", "grouping", "Trees", "trees ", "tree", "none", "trees pairs"]:
            for call in (rules_of, Rules.all_of):
                with self.assertRaises(NoKind) as caught:
                    call(text)
                self.assertEqual(caught.exception.name, text)

    def test_returned_lists_are_new(self):
        for call in (all_rules, all_kinds, lambda: rules_of("sets"), Rules.of("order", "keep").listed):
            before = call()
            changed = call()
            changed.append("order")
            changed[0] = "more"
            self.assertEqual(call(), before)


class TestMaking(unittest.TestCase):
    def test_no_names(self):
        for rules in (Rules(), Rules([]), Rules(()), Rules.of(), Rules.all_of("trees")):
            self.assertEqual(rules.listed(), [])
            self.assertEqual(rules.kind, "trees")

    def test_any_order_and_repetition(self):
        for names in (["keep", "order", "first"], ["order", "first", "keep", "order", "keep"],
                      ("first", "keep", "keep", "order")):
            self.assertEqual(Rules(names).listed(), ["order", "first", "keep"])
            self.assertEqual(Rules.of(*names).listed(), ["order", "first", "keep"])
            self.assertEqual(len(Rules(names)), 3)

    def test_of_one_name(self):
        for rule in RULES:
            self.assertEqual(Rules.of(rule).listed(), [rule])
            self.assertEqual(Rules.of(rule), Rules([rule]))

    def test_all_of(self):
        for kind, names in kinds().items():
            self.assertEqual(Rules.all_of(kind).listed(), names)
            self.assertEqual(Rules.all_of(kind).kind, kind)

    def test_no_rule_tells_the_first_wrong_text(self):
        for names, wrong in (
            (["order", "none", "nothing"], "none"),
            (["", "none"], ""),
            (["trees"], "trees"),
            (["keep", "sets", "order", "keep"], "sets"),
            (("Order",), "Order"),
            (["order "], "order "),
        ):
            for call in (lambda: Rules(names), lambda: Rules.of(*names)):
                with self.assertRaises(NoRule) as caught:
                    call()
                self.assertEqual(caught.exception.name, wrong)

    def test_a_list_that_was_handed_in_may_be_changed(self):
        names = ["order", "grouping"]
        rules = Rules(names)
        names.append("vanish")
        del names[0]
        self.assertEqual(rules.listed(), ["grouping", "order"])
        self.assertEqual(rules.kind, "bags")
        self.assertFalse("vanish" in rules)

    def test_arguments_are_not_changed(self):
        names = ["take", "order", "take"]
        Rules(names)
        self.assertEqual(names, ["take", "order", "take"])

    def test_the_kind_cannot_be_assigned(self):
        with self.assertRaises(AttributeError):
            Rules.of("order").kind = "sets"


class TestAllSets(unittest.TestCase):
    def test_closed_and_kind(self):
        for names in all_sets():
            rules = Rules(names)
            closed = rules.closed()
            self.assertIsInstance(closed, Rules)
            self.assertEqual(closed.listed(), implied(names), names)
            self.assertEqual(rules.kind, kind_of(names), names)
            self.assertEqual(closed.kind, rules.kind)
            self.assertEqual(closed.closed(), closed)
            self.assertEqual(rules.listed(), names)

    def test_in_goes_by_what_is_implied(self):
        for names in all_sets():
            rules = Rules(names)
            told = implied(names)
            for rule in RULES:
                self.assertIs(rule in rules, rule in told, (names, rule))
            for text in OTHER_TEXTS:
                self.assertIs(text in rules, False)

    def test_len_and_bool_go_by_the_rules_themselves(self):
        for names in all_sets():
            self.assertEqual(len(Rules(names)), len(names))
            self.assertIs(bool(Rules(names)), names != [])


class TestOperations(unittest.TestCase):
    """The table of the kinds, tried on real operations."""

    def check(self, entries, size):
        values = range(size)
        kept = kept_by(lambda x, y: entries[x * size + y], values)
        rules = Rules(kept)
        self.assertEqual(rules.closed().listed(), kept, entries)
        self.assertEqual(rules_of(rules.kind), kept, entries)
        return rules.kind

    def test_what_an_operation_keeps_is_closed(self):
        found = set()
        for size, step in ((1, 1), (2, 1), (3, 7)):
            for code in range(0, size ** (size * size), step):
                found.add(self.check([code // size ** k % size for k in range(size * size)], size))
        for kind in ("trees", "pairs", "bags", "parity", "sets", "lefts", "rights", "one"):
            self.assertIn(kind, found)

    def test_kinds_that_need_more_values(self):
        heads, tails = [0, 0, 0, 1, 1, 1, 0, 1, 2], [0, 1, 0, 0, 1, 1, 0, 1, 2]
        both = [
            3 * heads[3 * (x // 3) + y // 3] + tails[3 * (x % 3) + y % 3] for x in range(9) for y in range(9)
        ]
        for kind, entries, size in (
            ("heads", heads, 3),
            ("tails", tails, 3),
            ("middles", both, 9),
            ("outer", [0, 1, 0, 1, 0, 1, 0, 1, 2, 3, 2, 3, 2, 3, 2, 3], 4),
            ("words", [0, 0, 0, 0, 0, 0, 0, 1, 2], 3),
        ):
            self.assertEqual(self.check(entries, size), kind)


if __name__ == "__main__":
    unittest.main()
