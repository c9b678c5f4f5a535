"""What is asked again and again: it is told soon, and the answers do not depend on what was asked ahead."""

import random
import unittest
from itertools import product

from foldplans.codes import ITEM, PLUS, letters_in
from foldplans.compare import agree, agreeing_tags, least_kinds, parting, parting_rows
from foldplans.duels import late_items, shortest_items
from foldplans.gauges import gauge_for
from foldplans.least import normal_form, width
from foldplans.lives import living_sums
from foldplans.loops import Loop
from foldplans.remains import least_of_unlike
from foldplans.rowkinds import kinds_at
from foldplans.rules import all_kinds, rules_of
from foldplans.spelled import are_turned, spelled_result
from foldplans.trees import do_agree, letters
from tests.pairs_of_loops import drawn_pairs, fit, kinds_of, rows_over, stepping
from tests.samples import Soon, left_comb, trees_over

GROWING = """tags m h
sums u
state c
on m go r
u = %s
on h go r
u = x
end none
state r
on m go r
on h go r
u = u + x + x
end u"""


def least(kinds):
    """Those kinds that no other one is weaker than."""
    return [kind for kind in kinds if not any(set(rules_of(one)) < set(rules_of(kind)) for one in kinds)]


def code(tree):
    """The code of a tree."""
    return (*code(tree[0]), *code(tree[1]), PLUS) if isinstance(tree, tuple) else (tree,)


def shown(p, q, kind):
    """All that a parting tells."""
    found = parting(p, q, kind)
    return found and (found.given, str(found.table), found.results)


class TestKindsAtRows(unittest.TestCase):
    def test_many_questions(self):
        p, q = Loop(GROWING % "x"), Loop(GROWING % "x + x")
        row = "h m h m m m h h h m h m m m m m".split()
        self.assertEqual(p.tree(row), q.tree(row))
        with Soon(5):
            for _ in range(60000):
                told = kinds_at(p, q, row)
        self.assertEqual(told, ["words"])

    def test_many_questions_with_unlike_results(self):
        p, q = Loop(GROWING % "x"), Loop(GROWING % "x + x")
        row = "m h m m m h h h m h m m m m m".split()
        expected = least([kind for kind in kinds_of(p, q) if do_agree(p.tree(row), q.tree(row), kind)])
        with Soon(5):
            for _ in range(40000):
                told = kinds_at(p, q, row)
        self.assertEqual(told, expected)
        self.assertEqual(told, ["middles"])

    def test_unlike_rows_of_letters(self):
        rows = [row for many in range(1, 5) for row in product(range(3), repeat=many)]
        kinds = [kind for kind in all_kinds() if kind not in ("trees", "pairs")]
        for one, two in product(rows, repeat=2):
            if one != two:
                trees = left_comb(one), left_comb(two)
                expected = least([kind for kind in kinds if do_agree(*trees, kind)])
                self.assertEqual(least_of_unlike(one, two, False), expected, (one, two))

    def test_longer_rows_of_letters(self):
        draw = random.Random(5)
        kinds = [kind for kind in all_kinds() if kind not in ("trees", "pairs")]
        for _ in range(3000):
            one = tuple(draw.choice(range(5)) for _ in range(draw.randrange(1, 9)))
            two = list(one) + list(draw.sample(one, draw.randrange(min(3, len(one)))))
            if draw.random() < 0.7:
                draw.shuffle(two)
            two = tuple(two)
            if one != two:
                trees = left_comb(one), left_comb(two)
                expected = least([kind for kind in kinds if do_agree(*trees, kind)])
                self.assertEqual(least_of_unlike(one, two, False), expected, (one, two))

    def test_trees_without_repeated_letters(self):
        trees = [tree for tree in trees_over(range(4), 4) if len(set(letters(tree))) == len(letters(tree))]
        for one, two in product(trees[::3], trees):
            self.assertEqual(are_turned(code(one), code(two)), do_agree(one, two, "pairs"), (one, two))
            if letters(one) != letters(two):
                expected = least([kind for kind in all_kinds() if do_agree(one, two, kind)])
                told = least_of_unlike(letters(one), letters(two), are_turned(code(one), code(two)))
                self.assertEqual(told, expected, (one, two))

    def test_spelled_results(self):
        for _, _, p, q in drawn_pairs(range(0, 120, 2)):
            for loop in (p, q):
                for row in rows_over(p.tags):
                    numbers = [p.tags.index(tag) for tag in row]
                    tree = loop.tree(row)
                    expected = None if tree is None else code(tree)
                    self.assertEqual(spelled_result(loop.plan, numbers, False), expected)
                    flat = None if tree is None else letters_in(expected)
                    self.assertEqual(spelled_result(loop.plan, numbers, True), flat)
        self.assertEqual(letters_in((0, ITEM, PLUS)), (0, ITEM))


class TestAgreement(unittest.TestCase):
    def test_many_pairs_under_all_kinds(self):
        pairs = [(Loop(stepping(20)), Loop(stepping(20, {19: "b + a"}))) for _ in range(150)]
        unlike = "trees words middles heads tails outer lefts rights".split()
        with Soon(8):
            for p, q in pairs:
                for kind in all_kinds():
                    self.assertEqual(agree(p, q, kind), kind not in unlike)
                    found = parting(p, q, kind)
                    self.assertEqual(found is None, kind not in unlike)
                    if found is not None:
                        self.assertEqual(len(found.given), 19)

    def test_many_loops_of_all_lengths(self):
        with Soon(8):
            for many in range(4, 21):
                for last in range(2, many):
                    p, q = Loop(stepping(many)), Loop(stepping(many, {last: "b + a"}))
                    for kind in all_kinds():
                        found = parting(p, q, kind)
                        self.assertEqual(agree(p, q, kind), found is None)
                        if found is not None:
                            self.assertEqual(len(found.given), last)

    def test_each_tag_may_part_the_loops(self):
        for tag in "mnrs":
            changed = stepping(8).replace(f"on {tag} go ste\na = a + b", f"on {tag} go ste\na = b + a")
            p, q = Loop(stepping(8)), Loop(changed)
            for kind in all_kinds():
                found = parting(p, q, kind)
                self.assertEqual(found is None, kind in ("pairs", "bags", "parity", "sets", "rights", "one"))
                if found is not None:
                    self.assertEqual([len(found.given), found.given[3][0]], [4, tag])
                self.assertEqual(agree(p, q, kind), found is None)
            self.assertEqual(agreeing_tags(p, q, "words"), [[other for other in "mnrs" if other != tag]])

    def test_answers_do_not_depend_on_what_was_asked_ahead(self):
        for number, kind, p, q in drawn_pairs(range(1, 240, 3)):
            asked = [least_kinds, lambda p, q: agreeing_tags(p, q, kind), lambda p, q: str(parting_rows(p, q, kind))]
            for told in (asked, asked[::-1]):
                one, two = Loop(p.text), Loop(q.text)
                for question in told:
                    if kind in kinds_of(p, q):
                        question(one, two)
                for other in kinds_of(p, q):
                    fresh = Loop(p.text), Loop(q.text)
                    self.assertEqual(agree(one, two, other), agree(*fresh, other), (number, other))
                    self.assertEqual(shown(one, two, other), shown(*fresh, other), (number, other))
                    self.assertEqual(shown(two, one, other), shown(*fresh[::-1], other), (number, other))
            if one.is_single:
                for under in ("trees", "pairs", "words", "bags"):
                    self.assertEqual(width(one, under), width(Loop(p.text), under))
                    self.assertEqual(normal_form(one, under).text, normal_form(Loop(p.text), under).text)


class TestShortestLists(unittest.TestCase):
    def gauges(self, p, q):
        single = p.is_single and q.is_single
        return [gauge_for(part, single, True) for part in ("words", "heads", "bags", "lefts", "one")]

    def test_both_ways_to_find_them(self):
        found = {}
        for number, _, p, q in drawn_pairs(range(0, 300, 2)):
            for gauge in self.gauges(p, q):
                told = late_items(p.plan, q.plan, gauge)
                self.assertEqual(shortest_items(p.plan, q.plan, gauge), told, number)
                found[told is None] = True
        self.assertEqual(len(found), 2)

    def test_longer_lists_can_be_left_out(self):
        for number, _, p, q in drawn_pairs(range(1, 300, 2)):
            for gauge in self.gauges(p, q):
                told = shortest_items(p.plan, q.plan, gauge)
                for most in range(6):
                    expected = told if told is not None and len(told) <= most else None
                    self.assertEqual(shortest_items(p.plan, q.plan, gauge, most), expected, number)
                    self.assertEqual(late_items(p.plan, q.plan, gauge, most), expected, number)


class TestPlans(unittest.TestCase):
    def test_lines_that_do_the_same_share_a_turn(self):
        plan = Loop(stepping(5)).plan
        for row, shared in zip(plan.turns, plan.shared_turns()):
            self.assertEqual(len({id(turn) for turn in shared}), 1)
            self.assertEqual([turn.goal for turn in row], [turn.goal for turn in shared])
        plan = Loop(stepping(5).replace("on n go std\n", "on n go ste\n")).plan
        self.assertEqual([len({id(turn) for turn in row}) for row in plan.shared_turns()], [1, 1, 2, 1, 1])

    def test_living_sums(self):
        self.assertEqual(living_sums(Loop(stepping(3)).plan), [[], [1], [0, 1]])
        self.assertEqual(living_sums(Loop(stepping(3, {2: "none"})).plan), [[], [1], []])
        self.assertEqual(living_sums(Loop(stepping(4, {2: "none", 3: "b"})).plan), [[], [1], [], [1]])


if __name__ == "__main__":
    unittest.main()
