"""Agreeing tags, agreement in a table, and freedom of order, against searches."""

import unittest
from itertools import permutations, product

from foldplans.compare import agree, agreeing_tags, is_order_free, parting_in, parting_rows
from foldplans.errors import Doubled, NoKind, OtherTags
from foldplans.loops import Loop
from foldplans.makers import back_fold, by_tag, every, fold, joined, lanes, latest, without
from foldplans.rowsets import RowSet
from foldplans.rules import all_kinds
from foldplans.tables import Table
from tests.loop_texts import DOUBLED, FOLD, SILENT
from tests.pairs_of_loops import counted, drawn_pairs, fit, kinds_of, rows_over
from tests.samples import Soon
from tests.tables_by_hand import drawn, structured


def subsets(tags):
    """All sets of tags, each in the order of the tags, in the order that the document tells."""
    chosen = product([True, False], repeat=len(tags))
    return [[tag for tag, taken in zip(tags, choice) if taken] for choice in chosen]


def renumbered(tree, places):
    """The tree with other letters."""
    if isinstance(tree, tuple):
        return (renumbered(tree[0], places), renumbered(tree[1], places))
    return None if tree is None else places[tree]


def is_free_up_to(loop, kind, rows):
    """Whether the result stays when two neighbours change places, for all of these rows."""
    for row in rows:
        found = loop.tree(row)
        for at in range(len(row) - 1):
            places = list(range(len(row)))
            places[at:at + 2] = [at + 1, at]
            moved = renumbered(loop.tree([row[place] for place in places]), places)
            if not fit(found, moved, kind):
                return False
    return True


class TestAgreeingTags(unittest.TestCase):
    def check_sets(self, p, q, kind, told):
        """The told sets hold no row that parts the loops, each other one holds one; none in another."""
        for tags in told:
            self.assertEqual([set(tags) <= set(other) for other in told].count(True), 1)
        apart = parting_rows(p, q, kind)
        for tags in subsets(p.tags):
            if any(set(tags) <= set(other) for other in told):
                for row in rows_over(tags):
                    self.assertTrue(fit(p.tree(row), q.tree(row), kind))
            else:
                rest = apart
                for tag in p.tags:
                    if tag not in tags:
                        rest = rest - RowSet.with_tag(p.tags, tag)
                row = rest.earliest()
                self.assertLessEqual(set(row), set(tags))
                self.assertFalse(fit(p.tree(row), q.tree(row), kind))

    def test_drawn_pairs(self):
        many = {}
        for number, _, p, q in drawn_pairs(range(3, 400, 3)):
            for kind in kinds_of(p, q):
                told = agreeing_tags(p, q, kind)
                self.assertEqual(told, [tags for tags in subsets(p.tags) if tags in told], (number, kind))
                self.check_sets(p, q, kind, told)
                many[str(told)] = True
        self.assertGreater(len(many), 4)

    def test_five_tags_and_the_order_of_the_sets(self):
        tags = ["t", "u", "v", "w", "y"]
        p, q = fold(tags), joined(without(fold(tags), "u"), without(without(fold(tags), "t"), "v"))
        with Soon():
            self.assertEqual(agreeing_tags(fold(tags), lanes(tags, 1), "trees"), [tags])
            self.assertEqual(agreeing_tags(p, q, "words"), [["t", "v"], ["u"]])
            self.assertEqual(agreeing_tags(p, without(p, "v"), "bags"), [["t", "u", "w", "y"]])
            self.assertEqual(agreeing_tags(p, without(without(p, "v"), "u"), "one"), [["t", "w", "y"]])

    def test_by_tag_agrees_for_each_tag_alone(self):
        tags = ["t", "u", "v", "w"]
        self.assertEqual(agreeing_tags(fold(tags), by_tag(tags), "words"), [["t"], ["u"], ["v"], ["w"]])
        self.assertEqual(agreeing_tags(fold(tags), by_tag(tags), "bags"), [tags])

    def test_no_tag_is_left(self):
        self.assertEqual(agreeing_tags(fold(["t"]), Loop(SILENT), "one"), [[]])
        self.assertEqual(agreeing_tags(fold(["t"]), fold(["t"]), "trees"), [["t"]])

    def test_errors(self):
        twice, plain = Loop(DOUBLED), fold(["t"])
        self.assertRaises(OtherTags, agreeing_tags, fold(["t", "u"]), fold(["u", "t"]), "none")
        with self.assertRaises(NoKind) as caught:
            agreeing_tags(twice, twice, "none")
        self.assertEqual(caught.exception.name, "none")
        for kind in ("trees", "pairs"):
            self.assertRaises(Doubled, agreeing_tags, plain, twice, kind)
            self.assertRaises(Doubled, agreeing_tags, twice, plain, kind)

    def test_doubled_because_of_another_tag(self):
        text = "tags t u\nsums a\nstate s\non t go r\na = x\non u go s\na = %s\nend none\nstate r\non t go r\n" \
            "a = a + x\non u go r\nend a"
        twice, plain = Loop(text % "x + x"), Loop(text % "x")
        self.assertRaises(Doubled, agreeing_tags, plain, twice, "trees")
        self.assertEqual(agreeing_tags(plain, twice, "words"), [["t", "u"]])


class TestTables(unittest.TestCase):
    def check(self, p, q, table, length):
        """Holds parting_in against a search over all lists up to a length."""
        before = str(table)
        told = parting_in(p, q, table)
        self.assertEqual(str(table), before)
        if told is not None:
            self.assertNotEqual(p.run(told, table), q.run(told, table))
            for item in told:
                self.assertIs(type(item), tuple)
        for many in range(length + 1):
            for row in product(product(p.tags, range(table.size)), repeat=many):
                if p.run(list(row), table) != q.run(list(row), table):
                    self.assertEqual(len(told), many)
                    return
        if told is not None:
            self.assertGreater(len(told), length)

    def test_drawn_pairs_and_tables(self):
        tables = list(structured())
        for number, _, p, q in drawn_pairs(range(240)):
            if number % 2:
                table = drawn(1 + number // 2 % 4, number)
            else:
                table = tables[number // 2 % len(tables)]
            most = {1: 6, 2: 5, 3: 4, 4: 3}.get(table.size * len(p.tags), 2)
            self.check(p, q, table, most)

    def test_a_changed_table_is_asked_anew(self):
        table = Table.of(3, max)
        p, q = fold(["t"]), back_fold(["t"])
        self.assertIs(parting_in(p, q, table), None)
        table[1, 2] = 0
        told = parting_in(p, q, table)
        self.assertEqual([value for _, value in told], [2, 1] if told[0][1] == 2 else [1, 2])
        table[2, 1] = 0
        self.assertEqual(table.kind, "pairs")
        self.assertIs(parting_in(p, q, table), None)

    def test_loops_may_agree_in_a_table_alone(self):
        table = Table.of(2, lambda a, b: 0)
        p, q = fold(["t"]), joined(fold(["t"]), fold(["t"]))
        self.assertFalse(agree(p, q, "bags"))
        self.assertEqual(parting_in(p, q, table), [("t", 1)])
        self.assertIs(parting_in(fold(["t"]), lanes(["t"], 3), table), None)
        self.assertEqual(len(parting_in(p, Loop(SILENT), table)), 1)

    def test_great_tables(self):
        with Soon():
            self.assertEqual(len(parting_in(fold(["t"]), back_fold(["t"]), Table.of(60, lambda a, b: a))), 2)
            self.assertIs(parting_in(fold(["t"]), back_fold(["t"]), Table.of(60, lambda a, b: (a + b) % 60)), None)
            self.assertIs(parting_in(fold(["t"]), lanes(["t"], 4), Table.of(60, min)), None)
            told = parting_in(lanes(["t", "u"], 3), by_tag(["t", "u"]), Table.of(12, lambda a, b: (a * a + b) % 12))
            self.assertLessEqual(len(told), 3)

    def test_late_lists(self):
        p, q = Loop(counted(18, "a + x")), Loop(counted(18, "a"))
        self.assertEqual(len(parting_in(p, q, Table.of(4, max))), 18)

    def test_errors(self):
        self.assertRaises(OtherTags, parting_in, fold(["t", "u"]), fold(["u", "t"]), Table(1))


class TestOrder(unittest.TestCase):
    def test_drawn_loops(self):
        free = 0
        for number, _, p, _ in drawn_pairs(range(500)):
            rows = rows_over(p.tags)
            for kind in kinds_of(p):
                told = is_order_free(p, kind)
                self.assertEqual(told, is_free_up_to(p, kind, rows), (number, kind))
                free += told
        self.assertGreater(free, 300)

    def test_loops_by_hand(self):
        tags = ["t", "u"]
        expected = {
            "bags": [fold(tags), back_fold(tags), lanes(tags, 3), by_tag(tags), without(fold(tags), "u")],
            "trees": [Loop(SILENT)],
        }
        for kind, loops in expected.items():
            for loop in loops:
                self.assertTrue(is_order_free(loop, kind))
        for kind in ("trees", "pairs", "words", "middles", "heads", "tails", "outer", "lefts", "rights"):
            self.assertFalse(is_order_free(fold(tags), kind))
        for kind in ("bags", "parity", "sets"):
            self.assertFalse(is_order_free(latest(tags, 2), kind))
            self.assertFalse(is_order_free(every(tags, 2), kind))
        self.assertTrue(is_order_free(latest(tags, 2), "one"))
        twice = FOLD.replace("a + x", "( x + a ) + x")
        self.assertFalse(is_order_free(Loop(twice), "bags"))
        self.assertTrue(is_order_free(Loop(twice), "sets"))
        self.assertTrue(is_order_free(Loop(twice.replace("a = x", "a = x + x")), "bags"))
        self.assertFalse(is_order_free(Loop(twice.replace("a = x", "a = x + x")), "words"))

    def test_the_order_matters_only_for_long_lists(self):
        for many in (3, 16):
            loop = Loop(counted(many, "a"))
            self.assertTrue(is_order_free(loop, "one"))
            self.assertFalse(is_order_free(loop, "sets"))
            self.assertTrue(is_order_free(Loop(counted(many, "a + x")), "bags"))

    def test_all_permutations_of_short_rows(self):
        loop = lanes(["t", "u"], 3)
        self.assertTrue(is_order_free(loop, "bags"))
        for row in rows_over(["t", "u"], 4):
            for places in permutations(range(len(row))):
                moved = renumbered(loop.tree([row[place] for place in places]), list(places))
                self.assertTrue(fit(loop.tree(row), moved, "bags"))

    def test_errors(self):
        twice = Loop(DOUBLED)
        with self.assertRaises(NoKind) as caught:
            is_order_free(twice, "nothing")
        self.assertEqual(caught.exception.name, "nothing")
        for kind in all_kinds():
            if kind in ("trees", "pairs"):
                self.assertRaises(Doubled, is_order_free, twice, kind)
            else:
                self.assertTrue(is_order_free(twice, kind))


if __name__ == "__main__":
    unittest.main()
