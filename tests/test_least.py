"""Widths, normal forms and rows that hold positions apart."""

import unittest
from itertools import permutations

from foldplans.compare import agree, parting
from foldplans.errors import Doubled, NoNormal
from foldplans.least import held_apart, normal_form, width
from foldplans.loops import Loop
from foldplans.makers import (
    back_fold, blocks, by_tag, earliest, every, fold, joined, lanes, latest, restarting, without,
)
from foldplans.rules import all_kinds
from foldplans.trees import do_agree, letters
from tests.loop_texts import DOUBLED, FOLD, SILENT
from tests.pairs_of_loops import parting_rows_up_to, rows_over
from tests.reference import Spelled
from tests.rewriting import Rewriter
from tests.samples import Soon
from tests.single_pairs import KINDS, comb, great_pairs, quad, single_pairs


def reached_states(loop):
    """How many states some list reaches."""
    spelled = Spelled(loop.text)
    found = [spelled.states[0]]
    for state in found:
        found += {spelled.goals[state, tag] for tag in spelled.tags} - set(found)
    return len(found)


class TestNormalForms(unittest.TestCase):
    def check_form(self, loop, form, kind):
        self.assertIs(type(form), Loop)
        self.assertTrue(form.is_single)
        self.assertEqual(form.tags, loop.tags)
        self.assertTrue(agree(loop, form, kind))
        self.assertEqual(len(form.sums), width(loop, kind))
        self.assertLessEqual(len(form.sums), len(loop.sums))
        self.assertLessEqual(len(form.states), reached_states(loop))
        self.assertEqual(normal_form(form, kind).text, form.text)
        self.assertEqual(width(form, kind), width(loop, kind))

    def check_pair(self, number, kind, p, q, rows):
        one, two = normal_form(p, kind), normal_form(q, kind)
        alike = parting(p, q, kind) is None
        self.assertEqual(one.text == two.text, alike, (number, kind))
        apart = parting_rows_up_to(p, q, kind, rows)
        self.assertFalse(apart and alike, (number, kind))
        self.assertFalse(parting_rows_up_to(p, one, kind, rows))
        self.check_form(p, one, kind)
        self.check_form(q, two, kind)
        if alike:
            self.assertLessEqual(len(one.states), reached_states(q))
            self.assertLessEqual(len(one.sums), len(q.sums))
        return alike

    def test_drawn_pairs(self):
        found = {True: 0, False: 0}
        for number, kind, p, q in single_pairs(range(900)):
            found[self.check_pair(number, kind, p, q, rows_over(p.tags))] += 1
            for other in KINDS:
                same = normal_form(p, other).text == normal_form(q, other).text
                self.assertEqual(same, agree(p, q, other), (number, other))
        self.assertGreater(found[True], 400)
        self.assertGreater(found[False], 100)

    def test_greater_pairs(self):
        for number, kind, p, q in great_pairs(range(150)):
            with Soon():
                self.check_pair(number, kind, p, q, rows_over(p.tags, 4))

    def test_shortest_lists_are_by_the_search(self):
        for number, kind, p, q in single_pairs(range(1, 700, 3)):
            apart = parting_rows_up_to(p, q, kind, rows_over(p.tags))
            if apart:
                self.assertEqual(len(parting(p, q, kind).given), len(apart[0]), number)

    def test_blocks_lanes_and_an_item_held_back(self):
        held = Loop(
            "tags t\nsums c b\nstate s\non t go r\nb = x\nend none\nstate r\non t go p\nc = b\nb = x\nend b\n"
            "state p\non t go p\nc = c + b\nb = x\nend c + b"
        )
        for kind in KINDS:
            texts = [normal_form(loop, kind).text for loop in (fold(["t"]), held, blocks(["t"], 1), lanes(["t"], 1))]
            self.assertEqual(len(set(texts)), 1)
            self.assertEqual(width(held, kind), 1)
        words = {normal_form(blocks(["t"], k), "words").text for k in range(1, 7)}
        self.assertEqual(words, {normal_form(fold(["t"]), "words").text})
        bags = [fold(["t"]), back_fold(["t"]), by_tag(["t"]), blocks(["t"], 4), lanes(["t"], 5)]
        self.assertEqual(len({normal_form(loop, "bags").text for loop in bags}), 1)
        pairs = [fold(["t"]), back_fold(["t"])]
        self.assertEqual(len({normal_form(loop, "pairs").text for loop in pairs}), 1)
        self.assertEqual(len({normal_form(loop, "words").text for loop in pairs}), 2)

    def test_sums_that_can_be_exchanged_two_and_two(self):
        loops = []
        for order in permutations("abcd"):
            loops.append(quad(order, []))
        for moved in permutations("abcd"):
            loops.append(quad("abcd", [f"{one} = {two}" for one, two in zip("abcd", moved) if one != two]))
        for kind in ("pairs", "trees", "words"):
            texts = [normal_form(loop, kind).text for loop in loops]
            first = loops[0]
            for loop, text in zip(loops, texts):
                self.assertEqual(text == texts[0], agree(first, loop, kind))
                self.check_form(loop, Loop(text), kind)
            self.assertEqual(len(set(texts)), 6 if kind == "pairs" else 24)
            self.assertEqual(width(first, kind), 4)

    def test_no_result(self):
        for kind in KINDS:
            form = normal_form(Loop(SILENT), kind)
            self.assertEqual([width(Loop(SILENT), kind), len(form.states), form.sums], [0, 1, ()])
            never = Loop(FOLD.replace("end a", "end none"))
            self.assertEqual(normal_form(never, kind).text, form.text)


def deep(many, kept, aside=None):
    """A loop that collects so many items, then puts some of them together in two steps, all from the right.

    The item with the number `aside` is held by itself; it comes into the result behind a v alone.
    """
    letters_of = "abcdefghijklmnopqrstuvwyz"
    names = ["s" + letters_of[at // 20] + letters_of[at % 20] for at in range(many)]
    states = ["q" + letters_of[at // 20] + letters_of[at % 20] for at in range(many + 3)]
    text = ["tags t u v", " ".join(["sums", *names])]
    for at, name in enumerate(names):
        text += ["state " + states[at], f"on t go {states[at + 1]}", name + " = x"]
        text += [f"on {tag} go {states[at]}" for tag in "uv"] + ["end none"]
    sums = [name for at, name in enumerate(names) if at != aside]
    text += ["state " + states[many], f"on t go {states[many + 1]}", f"{sums[kept]} = {comb(sums[kept:])}"]
    text += [f"on u go {states[many]}", f"{names[0]} = {names[-1]}", f"{names[-1]} = {names[0]}"]
    text += [f"on v go {states[many]}"]
    text += [f"{name} = {names[at - 1]}" for at, name in enumerate(names)] + ["end none"]
    end = comb(sums[:kept + 1])
    text += ["state " + states[many + 1], f"on t go {states[many + 1]}", f"on u go {states[many + 1]}"]
    text += [f"on v go {states[many + 2] if aside is not None else states[many + 1]}", "end " + end]
    if aside is not None:
        text += ["state " + states[-1], *[f"on {tag} go {states[-1]}" for tag in "tuv"]]
        text += [f"end {names[aside]} + {end}"]
    return Loop("\n".join(text))


class TestBrackets(unittest.TestCase):
    def test_long_right_sides(self):
        for many, kept in ((12, 5), (24, 11), (30, 15)):
            loop = deep(many, kept)
            row = ["t"] * many + ["u", "v", "v"] + ["t"]
            for kind in KINDS:
                with Soon(20):
                    form = normal_form(loop, kind)
                self.assertEqual(len(form.sums), 1 if kind == "bags" else many)
                self.assertEqual(len(form.states), many + 2)
                self.assertTrue(do_agree(loop.tree(row), form.tree(row), kind))
                self.assertEqual(normal_form(form, kind).text, form.text)

    def test_one_more_bracket_would_be_too_many(self):
        loop = deep(42, 21)
        with Soon(20):
            form = normal_form(loop, "trees")
        row = ["t"] * 43
        self.assertEqual(form.tree(row), loop.tree(row))
        self.assertEqual(len(form.sums), 42)


    def test_other_sums_beside_what_is_held_in_several(self):
        for aside in (0, 20, 42):
            loop = deep(43, 20, aside)
            with Soon(20):
                form = normal_form(loop, "trees")
            self.assertEqual([len(form.sums), len(form.states)], [43, 46])
            for row in (["t"] * 44, ["t"] * 44 + ["v"], ["t"] * 43 + ["u", "v", "t", "t", "v", "u"]):
                self.assertEqual(form.tree(row), loop.tree(row))
            names = ["n" + one + two for one in "abcdefghij" for two in "abcdefghij"]
            other = Loop(Rewriter(aside).rewritten_with(loop.text, names))
            self.assertEqual(normal_form(other, "trees").text, form.text)


class TestWidths(unittest.TestCase):
    def widths(self, loop):
        return [width(loop, kind) for kind in KINDS]

    def test_makers(self):
        for tags in (["t"], ["t", "u"]):
            self.assertEqual(self.widths(fold(tags)), [1, 1, 1, 1])
            self.assertEqual(self.widths(back_fold(tags)), [1, 1, 1, 1])
            for k in range(1, 5):
                self.assertEqual(self.widths(lanes(tags, k)), [k, k, k, 1])
                many = 1 if k == 1 else 2
                self.assertEqual(self.widths(blocks(tags, k)), [many, many, 1, 1])
                self.assertEqual(self.widths(earliest(tags, k)), [1, 1, 1, 1])
                self.assertEqual(self.widths(latest(tags, k)), [k, k, k, k])
                self.assertEqual(self.widths(every(tags, k)), [1, 1, 1, 1])
        for many in range(1, 5):
            self.assertEqual(self.widths(by_tag(["t", "u", "v", "w"][:many])), [many, many, many, 1])

    def test_loops_made_of_loops(self):
        tags = ["t", "u"]
        self.assertEqual(self.widths(without(by_tag(tags), "u")), [1, 1, 1, 1])
        self.assertEqual(self.widths(restarting(lanes(tags, 3), "u")), [3, 3, 3, 1])
        one, two = without(fold(tags), "u"), without(latest(tags, 2), "t")
        self.assertEqual(self.widths(joined(one, two)), [3, 3, 3, 3])
        self.assertEqual(self.widths(joined(one, without(fold(tags), "t"))), [2, 2, 2, 1])
        self.assertEqual(self.widths(joined(without(back_fold(tags), "u"), restarting(Loop(SILENT_TWO), "t"))), [1] * 4)

    def test_a_weaker_kind_has_no_lesser_width(self):
        for number, _, p, _ in single_pairs(range(0, 800, 2)):
            trees, pairs, words, bags = self.widths(p)
            self.assertTrue(trees >= pairs >= bags and trees >= words >= bags, number)

    def test_names_and_orders_play_no_part(self):
        for number, _, p, q in single_pairs(range(0, 700, 7)):
            self.assertEqual(self.widths(p), self.widths(q), number)


SILENT_TWO = "tags t u\nsums\nstate s\non t go s\non u go s\nend none"


def smallest_part(tree, i, j):
    """The smallest part of a tree that has both letters."""
    for side in tree:
        if isinstance(side, tuple) and {i, j} <= set(letters(side)):
            return smallest_part(side, i, j)
    return tree


class TestHeldApart(unittest.TestCase):
    def between(self, tree, i, j, kind):
        """The other letters between two letters, or in the smallest part that has both."""
        if kind == "words":
            row = letters(tree)
            first, last = sorted([row.index(i), row.index(j)])
            return row[first + 1:last]
        return [letter for letter in letters(smallest_part(tree, i, j)) if letter not in (i, j)]

    def segment(self, tree, i, j):
        row = letters(tree)
        first, last = sorted([row.index(i), row.index(j)])
        return row[first:last + 1]

    def check(self, loop, kind):
        row, positions, tails = held_apart(loop, kind)
        self.assertEqual([type(row), type(positions), type(tails)], [list, list, dict])
        self.assertEqual(len(positions), width(loop, kind))
        self.assertEqual(positions, sorted(set(positions)))
        self.assertTrue(all(0 <= place < len(row) for place in positions))
        wanted = {(i, j) for at, i in enumerate(positions) for j in positions[at + 1:]}
        self.assertEqual(set(tails), wanted)
        for place in positions:
            self.assertTrue(self.stands(loop, row, place))
        for (i, j), told in tails.items():
            self.assertIn(len(told), (1, 2))
            self.assertTrue(all(len(row) + len(tail) <= 300 for tail in told))
            trees = [loop.tree(row + tail) for tail in told]
            found = [[] if tree is None else letters(tree) for tree in trees]
            if len(told) == 1 and (i in found[0]) != (j in found[0]):
                continue
            self.assertNotEqual(kind, "bags")
            self.assertTrue(all(i in row_told and j in row_told for row_told in found))
            if len(told) == 1:
                others = self.between(trees[0], i, j, kind)
                self.assertTrue(any(other >= len(row) or other in positions for other in others))
            elif kind == "words":
                self.assertNotEqual(self.segment(trees[0], i, j), self.segment(trees[1], i, j))
            else:
                parts = [smallest_part(tree, i, j) for tree in trees]
                self.assertFalse(do_agree(*parts, kind))
        return len(positions)

    def stands(self, loop, row, place):
        """Whether a position stands in the result for some row that follows."""
        for tail in rows_over(loop.tags, 8 if len(loop.tags) == 1 else 5):
            tree = loop.tree(row + tail)
            if tree is not None and place in letters(tree):
                return True
        return False

    def test_drawn_loops(self):
        found = {}
        for number, _, p, q in single_pairs(range(1, 800, 2)):
            for kind in KINDS:
                for loop in (p, q):
                    many = self.check(loop, kind)
                    found[many] = found.get(many, 0) + 1
        self.assertGreater(found[2], 100)
        for number, kind, p, _ in great_pairs(range(60)):
            self.check(p, kind)

    def test_makers(self):
        for tags in (["t"], ["t", "u"]):
            for k in range(1, 5):
                for loop in (lanes(tags, k), blocks(tags, k), latest(tags, k), restarting(lanes(tags, k), "t")):
                    for kind in KINDS:
                        self.check(loop, kind)
            for kind in KINDS:
                self.check(by_tag(tags), kind)
        for kind in KINDS:
            self.check(quad("abcd", ["a = b", "b = a"]), kind)

    def test_two_rows(self):
        text = (
            "tags t u v\nsums a b\nstate s\non t go p\na = x\non u go s\non v go s\nend none\n"
            "state p\non t go q\nb = x\non u go p\non v go p\nend none\n"
            "state q\non t go q\non u go r\na = a + b\non v go r\na = b + a\nend none\n"
            "state r\non t go r\non u go r\non v go r\nend a"
        )
        for kind, many in (("trees", 2), ("words", 2), ("pairs", 1), ("bags", 1)):
            self.assertEqual(self.check(Loop(text), kind), many)
        self.assertEqual(sorted(held_apart(Loop(text), "words")[2][0, 1]), [["u"], ["v"]])

    def test_sides_that_are_exchanged_are_no_reason_under_pairs(self):
        text = (
            "tags t u v\nsums a b\nstate s\non t go p\na = x\non u go s\non v go s\nend none\n"
            "state p\non t go q\nb = x\non u go p\non v go p\nend none\n"
            "state q\non t go o\non u go r\na = a + b\non v go r\na = b + a\nend none\n"
            "state r\non t go r\non u go r\non v go r\nend a\n"
            "state o\non t go r\na = ( a + x ) + b\non u go o\non v go o\nend none"
        )
        for kind, many in (("trees", 2), ("pairs", 2), ("words", 2), ("bags", 1)):
            self.assertEqual(self.check(Loop(text), kind), many)
        self.assertEqual(held_apart(Loop(text), "pairs")[2], {(0, 1): [["t", "t"]]})

    def test_no_result(self):
        self.assertEqual(held_apart(Loop(SILENT), "trees"), ([], [], {}))


class TestErrors(unittest.TestCase):
    def test_no_normal_comes_before_doubled(self):
        for call in (width, normal_form, held_apart):
            for kind in [kind for kind in all_kinds() if kind not in KINDS] + ["", "word", "grouping"]:
                for text in (DOUBLED, FOLD):
                    with self.assertRaises(NoNormal) as caught:
                        call(Loop(text), kind)
                    self.assertEqual(caught.exception.name, kind)
            for kind in KINDS:
                self.assertRaises(Doubled, call, Loop(DOUBLED), kind)

    def test_a_state_that_no_list_reaches_makes_no_loop_doubled(self):
        loop = Loop(FOLD + "\nstate q\non t go q\na = x + x\nend none")
        for kind in KINDS:
            self.assertEqual(width(loop, kind), 1)
            self.assertEqual(normal_form(loop, kind).text, normal_form(Loop(FOLD), kind).text)
            held_apart(loop, kind)


if __name__ == "__main__":
    unittest.main()
