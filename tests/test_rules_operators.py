import operator
import unittest

from foldplans.rules import Rules
from tests.kinds_table import RULES, all_sets, implied, kinds

SIGNS = (
    (operator.or_, set.union),
    (operator.and_, set.intersection),
    (operator.sub, set.difference),
    (operator.xor, set.symmetric_difference),
)


def pairs_of_sets():
    """Each of the 512 sets, with its names, beside many others: small ones, kinds and a few more."""
    known = {tuple(names): Rules(names) for names in all_sets()}
    others = [names for names in known if len(names) <= 1]
    others += [tuple(names) for names in kinds().values()] + list(known)[::101]
    pairs = [pair for one in known for other in others for pair in ((one, other), (other, one))]
    return [(one, two, known[one], known[two]) for one, two in pairs]


class TestOperators(unittest.TestCase):
    def test_the_four_signs_go_by_the_rules_themselves(self):
        for one, two, a, b in pairs_of_sets():
            for sign, meant in SIGNS:
                made = sign(a, b)
                self.assertIsInstance(made, Rules)
                expected = meant(set(one), set(two))
                self.assertEqual(made.listed(), [rule for rule in RULES if rule in expected])

    def test_what_they_give_knows_its_kind(self):
        self.assertEqual((Rules.of("first") | Rules.of("last")).kind, "sets")
        self.assertEqual((Rules.all_of("sets") & Rules.all_of("lefts")).kind, "heads")
        self.assertEqual((Rules.all_of("parity") - Rules.of("order")).kind, "parity")
        self.assertEqual((Rules.all_of("bags") ^ Rules.of("grouping", "keep")).kind, "one")

    def test_implied_rules_do_not_count_for_the_signs(self):
        self.assertEqual((Rules.of("keep") & Rules.of("grouping")).listed(), [])
        self.assertEqual((Rules.of("keep") - Rules.of("grouping")).listed(), ["keep"])
        self.assertEqual((Rules.of("keep") ^ Rules.of("grouping")).listed(), ["grouping", "keep"])

    def test_operands_stay_and_the_set_is_new(self):
        for sign, _ in SIGNS:
            a, b = Rules.of("order", "keep"), Rules.of("keep", "vanish")
            for one, two in ((a, b), (b, a), (a, a)):
                made = sign(one, two)
                self.assertIsNot(made, one)
                self.assertIsNot(made, two)
            self.assertEqual([a.listed(), b.listed()], [["order", "keep"], ["keep", "vanish"]])
            self.assertEqual([a.kind, b.kind], ["one", "one"])

    def test_signs_that_assign_leave_the_old_set(self):
        rules = old = Rules.of("order")
        rules |= Rules.of("keep")
        self.assertEqual([rules.listed(), old.listed()], [["order", "keep"], ["order"]])


class TestComparisons(unittest.TestCase):
    def test_order_goes_by_what_is_implied(self):
        known = {tuple(names): set(implied(names)) for names in all_sets()}
        for one, two, a, b in pairs_of_sets():
            below = set(one) <= known[tuple(two)]
            above = set(two) <= known[tuple(one)]
            self.assertIs(a <= b, below, (one, two))
            self.assertIs(a >= b, above, (one, two))
            self.assertIs(a < b, below and not above, (one, two))
            self.assertIs(a > b, above and not below, (one, two))

    def test_equality_goes_by_the_rules_themselves(self):
        for one, two, a, b in pairs_of_sets():
            self.assertIs(a == b, one == two)
            self.assertIs(a != b, one != two)

    def test_equal_closed_sets_of_other_rules(self):
        a, b = Rules.of("first", "order"), Rules.of("last", "order")
        self.assertEqual(a.closed(), b.closed())
        self.assertTrue(a <= b and b <= a and a >= b and b >= a)
        self.assertFalse(a < b or b < a or a > b or b > a)
        self.assertTrue(a != b)
        self.assertFalse(a == b)

    def test_one_within_the_other(self):
        a, b = Rules.of("grouping"), Rules.of("grouping", "order")
        self.assertTrue(a < b and a <= b and b > a and b >= a)
        self.assertFalse(b < a or b <= a or a > b or a >= b)

    def test_sets_of_which_neither_implies_the_other(self):
        a, b = Rules.of("keep"), Rules.of("take")
        self.assertFalse(a <= b or b <= a or a < b or b < a or a >= b or b >= a or a > b or b > a)

    def test_other_values_are_not_equal(self):
        for other in (["order"], "order", ("order",), None, 1):
            self.assertFalse(Rules.of("order") == other)
            self.assertTrue(Rules.of("order") != other)


if __name__ == "__main__":
    unittest.main()
