"""What several points say of the same thing fits together."""

import unittest

from foldplans.books import Book
from foldplans.compare import (
    agree, agreeing_tags, is_order_free, least_kinds, parting, parting_in, parting_rows, result_rows,
)
from foldplans.errors import NotAlike, TooMany
from foldplans.heights import greatest_height
from foldplans.least import normal_form, width
from foldplans.loops import Loop
from foldplans.makers import blocks, by_tag, fold, joined, lanes, latest, restarting, without
from foldplans.matchings import is_matching, matching
from foldplans.rowkinds import kinds_at, rows_by_kinds
from foldplans.rules import all_kinds
from tests.pairs_of_loops import drawn_pairs, kinds_of, rows_over
from tests.reference import Spelled
from tests.rewriting import tree_of, words_of
from tests.samples import Soon
from tests.single_pairs import KINDS, single_pairs
from tests.tables_by_hand import drawn

MIRROR = {"first": "last", "last": "first", "keep": "take", "take": "keep", "heads": "tails", "tails": "heads",
          "lefts": "rights", "rights": "lefts"}


class NoBrackets:
    """Draws no brackets that are not needed."""

    def random(self):
        return 0.5


def mirrored_tree(tree):
    return (mirrored_tree(tree[1]), mirrored_tree(tree[0])) if isinstance(tree, tuple) else tree


def mirrored_words(words):
    return words if words == ["none"] else words_of(mirrored_tree(tree_of(words)), NoBrackets())


def mirrored(loop):
    """The loop with the sides of each + exchanged."""
    spelled = Spelled(loop.text)
    lines = [" ".join(["tags", *spelled.tags]), " ".join(["sums", *spelled.sums])]
    for state in spelled.states:
        lines.append("state " + state)
        for tag in spelled.tags:
            lines.append(f"on {tag} go {spelled.goals[state, tag]}")
            for name, words in spelled.changes[state, tag]:
                lines.append(" ".join([name, "=", *mirrored_words(words)]))
        lines.append(" ".join(["end", *mirrored_words(spelled.ends[state])]))
    return Loop("\n".join(lines))


def mirror(kinds):
    """The mirrored kinds in the order of the document."""
    found = [MIRROR.get(kind, kind) for kind in kinds]
    return [kind for kind in all_kinds() if kind in found]


class TestInTheSamePlace(unittest.TestCase):
    def test_a_loop_that_agrees_can_stand_for_another_one(self):
        many = 0
        for number, _, p, q in drawn_pairs(range(0, 500, 2)):
            kinds = [kind for kind in kinds_of(p, q) if agree(p, q, kind)]
            tag, other = p.tags[0], fold(p.tags)
            for kind in kinds[:2]:
                many += 1
                self.assertTrue(agree(without(p, tag), without(q, tag), kind), number)
                self.assertTrue(agree(restarting(p, tag), restarting(q, tag), kind), number)
                self.assertTrue(parting_rows(p, other, kind) == parting_rows(q, other, kind), number)
                try:
                    one, two = joined(p, other), joined(q, other)
                except TooMany:
                    continue
                if kind in kinds_of(one, two):
                    self.assertTrue(agree(one, two, kind), number)
                    self.assertTrue(agree(joined(other, p), joined(other, q), kind))
            if kinds:
                self.assertTrue(result_rows(p) == result_rows(q))
        self.assertGreater(many, 150)

    def test_widths_normal_forms_matchings_and_books(self):
        for number, kind, p, q in single_pairs(range(0, 600, 3)):
            told = matching(p, q, kind)
            alike = agree(p, q, kind)
            book = Book(kind)
            book["p"] = p
            if alike:
                book["p"] = q
                self.assertEqual(width(p, kind), width(q, kind))
                self.assertTrue(is_matching(p, q, kind, told))
                self.assertIs(parting(p, q, kind), None)
            else:
                with self.assertRaises(NotAlike) as caught:
                    book["p"] = q
                self.assertEqual(len(caught.exception.row), len(parting_rows(p, q, kind).earliest()))
                self.assertIs(told, None)
            self.assertEqual(normal_form(p, kind).text == normal_form(q, kind).text, alike)

    def test_single_loops_under_the_stronger_kinds(self):
        for number, _, p, q in single_pairs(range(1, 600, 3)):
            for weak, strong in (("words", ("middles", "heads", "tails")), ("bags", ("parity", "sets"))):
                for kind in strong:
                    self.assertEqual(agree(p, q, kind), agree(p, q, weak), (number, kind))
                    self.assertTrue(parting_rows(p, q, kind) == parting_rows(p, q, weak))


class TestMirrored(unittest.TestCase):
    def test_all_sides_exchanged(self):
        for number, _, p, q in drawn_pairs(range(1, 260, 3)):
            one, two = mirrored(p), mirrored(q)
            self.assertEqual(least_kinds(one, two), mirror(least_kinds(p, q)), number)
            told = [(mirror(kinds), rows) for kinds, rows in rows_by_kinds(p, q)]
            self.assertTrue(rows_by_kinds(one, two) == told)
            for row in rows_over(p.tags, 3):
                self.assertEqual(kinds_at(one, two, row), mirror(kinds_at(p, q, row)))
            for kind in kinds_of(p, q):
                other = MIRROR.get(kind, kind)
                self.assertEqual(agree(p, q, kind), agree(one, two, other))
                self.assertTrue(parting_rows(p, q, kind) == parting_rows(one, two, other))
                self.assertEqual(agreeing_tags(p, q, kind), agreeing_tags(one, two, other))
                self.assertEqual(is_order_free(p, kind), is_order_free(one, other))
            self.assertEqual(greatest_height(p), greatest_height(one))
            table = drawn(2, number)
            found, likewise = parting_in(p, q, table), parting_in(one, two, ~table)
            self.assertEqual(found is None, likewise is None)
            if found is not None:
                self.assertEqual(len(found), len(likewise))

    def test_rules_and_tables(self):
        for number in range(200):
            table = drawn(1 + number % 3, number)
            told = [MIRROR.get(rule, rule) for rule in table.rules()]
            self.assertEqual(sorted((~table).rules()), sorted(told))
            self.assertEqual((~table).kind, MIRROR.get(table.kind, table.kind))

    def test_least_loops(self):
        for number, kind, p, _ in single_pairs(range(0, 400, 2)):
            one = mirrored(p)
            self.assertEqual(width(p, kind), width(one, kind))
            form, likewise = normal_form(p, kind), normal_form(one, kind)
            self.assertEqual([len(form.states), len(form.sums)], [len(likewise.states), len(likewise.sums)])
            self.assertEqual(normal_form(mirrored(form), kind).text, likewise.text)


class TestSoon(unittest.TestCase):
    def test_loops_of_makers_are_compared_soon(self):
        tags = ["t", "u"]
        loops = [lanes(tags, 4), latest(tags, 4), blocks(tags, 4), restarting(latest(tags, 4), "t"), by_tag(tags)]
        with Soon(30):
            for p in loops:
                for q in loops:
                    least_kinds(p, q)
                    for kind in KINDS:
                        self.assertEqual(agree(p, q, kind), normal_form(p, kind).text == normal_form(q, kind).text)


if __name__ == "__main__":
    unittest.main()
