"""The makers, against the words of the document."""

import unittest

from foldplans.errors import BadCount, BadName, NoTag, OtherTags, TooMany
from foldplans.loops import Loop
from foldplans.makers import (
    back_fold, blocks, by_tag, earliest, every, fold, joined, lanes, latest, restarting, without,
)
from tests.loop_texts import BACK, DOUBLED, FOLD, SILENT, SWAP
from tests.pairs_of_loops import drawn_pairs, rows_over
from tests.reference import Spelled

TAGS = [["t"], ["a", "b"], ["s", "st", "sta"], ["b", "a", "aaaaaaaaaaaa", "aaaaaaaaaaab"]]
NUMBERED = {"lanes": lanes, "blocks": blocks, "earliest": earliest, "latest": latest, "every": every}


def together(parts):
    """The parts from the left; None is left out."""
    parts = [part for part in parts if part is not None]
    tree = parts[0] if parts else None
    for part in parts[1:]:
        tree = (tree, part)
    return tree


def backwards(row):
    tree = None
    for at in range(len(row)):
        tree = at if tree is None else (at, tree)
    return tree


def told(name, row, k):
    """What a maker with a number has to give for a row."""
    places = list(range(len(row)))
    if name == "lanes":
        return together([together(places[lane::k]) for lane in range(k)])
    if name == "blocks":
        return together([together(places[at:at + k]) for at in range(0, len(row), k)])
    if name == "earliest":
        return together(places[:k])
    if name == "latest":
        return together(places[-k:])
    return together(places[::k])


def tag_by_tag(row, tags):
    return together([together([at for at, tag in enumerate(row) if tag == one]) for one in tags])


def long_row(tags):
    return [tags[at * at // 3 % len(tags)] for at in range(300)]


def most_open(words):
    """How many brackets are open at the same time."""
    return max(words[:at].count("(") - words[:at].count(")") for at in range(len(words) + 1))


def uses(loop, tag):
    """How often x stands behind the lines for a tag, for each state."""
    spelled = Spelled(loop.text)
    return [sum(words.count("x") for _, words in spelled.changes[state, tag]) for state in spelled.states]


def renumbered(tree, places):
    if isinstance(tree, tuple):
        return (renumbered(tree[0], places), renumbered(tree[1], places))
    return None if tree is None else places[tree]


def all_made(tags):
    """All loops that the first eight functions make over these tags."""
    found = [fold(tags), back_fold(tags)] + [maker(tags, k) for maker in NUMBERED.values() for k in range(1, 7)]
    return found + ([by_tag(tags)] if len(tags) < 5 else [])


class TestTrees(unittest.TestCase):
    def rows(self, tags):
        return [*rows_over(tags, [0, 14, 6, 4, 3][len(tags)]), long_row(tags)]

    def test_fold_and_back_fold(self):
        for tags in TAGS:
            for row in self.rows(tags):
                self.assertEqual(fold(tags).tree(row), together(range(len(row))))
                self.assertEqual(back_fold(tags).tree(row), backwards(row))

    def test_makers_with_a_number(self):
        for tags in TAGS:
            for name, maker in NUMBERED.items():
                for k in range(1, 7):
                    loop = maker(tags, k)
                    for row in self.rows(tags) + [[tags[-1]] * many for many in range(5, 20)]:
                        self.assertEqual(loop.tree(row), told(name, row, k), (name, k, row))

    def test_by_tag(self):
        for tags in TAGS:
            loop = by_tag(tags)
            for row in self.rows(tags):
                self.assertEqual(loop.tree(row), tag_by_tag(row, tags))

    def test_form(self):
        for tags in [*TAGS, ["q", "r", "s", "t", "u", "v"]]:
            for loop in all_made(tags):
                self.assertIs(type(loop), Loop)
                self.assertEqual(loop.tags, tuple(tags))
                self.assertTrue(loop.is_single)
                for tag in tags:
                    self.assertLessEqual(max(uses(loop, tag)), 1)
                for line in Spelled(loop.text).ends.values():
                    self.assertLessEqual(most_open(line), 19)

    def test_names_that_are_taken(self):
        letters = [letter for letter in "abcdefghijklmnopqrstuvwyz"]
        for tags in (letters, letters[::-1], letters[:5], ["aa", "ab", "a", "b"]):
            for loop in (fold(tags), lanes(tags, 6), blocks(tags, 6), latest(tags, 6)):
                names = [*loop.tags, *loop.sums, *loop.states]
                self.assertEqual(len(set(names)), len(names))
                self.assertEqual(loop.tree(tags[:1]), 0)

    def test_the_given_list_stays(self):
        tags = ["t", "u"]
        loop = lanes(tags, 2)
        tags.append("v")
        self.assertEqual(loop.tags, ("t", "u"))
        fold(tags), by_tag(tags), joined(fold(tags), fold(tags))
        self.assertEqual(tags, ["t", "u", "v"])
        self.assertEqual(fold(("t", "u")).tags, ("t", "u"))


class TestMadeOfLoops(unittest.TestCase):
    def check_without(self, loop, tag):
        made = without(loop, tag)
        for row in rows_over(loop.tags, [0, 8, 6, 4, 3][len(loop.tags)]):
            places = [at for at, other in enumerate(row) if other != tag]
            self.assertEqual(made.tree(row), renumbered(loop.tree([row[at] for at in places]), places))
        self.assertEqual(made.tags, loop.tags)
        self.assertEqual(max(uses(made, tag)), 0)
        self.check_uses(made, loop)
        return made

    def check_restarting(self, loop, tag):
        made = restarting(loop, tag)
        for row in rows_over(loop.tags, [0, 8, 6, 4, 3][len(loop.tags)]):
            first = max([at + 1 for at, other in enumerate(row) if other == tag], default=0)
            places = list(range(first, len(row)))
            self.assertEqual(made.tree(row), renumbered(loop.tree(row[first:]), places))
        self.assertEqual(made.tags, loop.tags)
        self.check_uses(made, loop)
        return made

    def check_uses(self, made, loop):
        for tag in loop.tags:
            self.assertLessEqual(max(uses(made, tag)), max(uses(loop, tag)))
        if loop.is_single:
            self.assertTrue(made.is_single)

    def check_joined(self, p, q):
        made = joined(p, q)
        for row in rows_over(p.tags, [0, 8, 6, 4, 3][len(p.tags)]):
            self.assertEqual(made.tree(row), together([p.tree(row), q.tree(row)]))
        self.assertEqual(made.tags, p.tags)
        for tag in p.tags:
            self.assertLessEqual(max(uses(made, tag)), max(uses(p, tag)) + max(uses(q, tag)))
        return made

    def test_makers(self):
        for tags in TAGS:
            for loop in all_made(tags)[::4]:
                for tag in tags:
                    first = self.check_without(loop, tag)
                    second = self.check_restarting(loop, tag)
                    for line in [*Spelled(first.text).ends.values(), *Spelled(second.text).ends.values()]:
                        self.assertLessEqual(most_open(line), 19)
                    self.check_restarting(first, tags[0])
                    self.check_without(second, tags[-1])

    def test_drawn_loops(self):
        for number, _, p, q in drawn_pairs(range(300)):
            self.check_without(p, p.tags[number % len(p.tags)])
            self.check_restarting(p, p.tags[-1])
            most = [max(uses(p, tag)) + max(uses(q, tag)) for tag in p.tags]
            if max(most) > 2:
                self.assertRaises(TooMany, joined, p, q)
            else:
                self.check_joined(p, q)

    def test_joined_makers(self):
        for tags in TAGS[:3]:
            loops = all_made(tags)[::5]
            for at, p in enumerate(loops):
                made = self.check_joined(p, loops[at - 1])
                row = long_row(tags)
                self.assertEqual(made.tree(row), together([p.tree(row), loops[at - 1].tree(row)]))

    def test_joined_with_no_results_and_with_itself(self):
        for one, two in ((FOLD, SILENT), (SILENT, FOLD), (SILENT, SILENT), (FOLD, BACK), (FOLD, FOLD)):
            self.check_joined(Loop(one), Loop(two))
        self.check_joined(fold(["t", "u"]), without(fold(["t", "u"]), "u"))
        self.check_joined(restarting(fold(["t", "u"]), "u"), without(latest(["t", "u"], 2), "t"))

    def test_brackets_at_the_end_of_the_second_loop(self):
        sums = ["a" + letter for letter in "abcdefghijklmnopqrstu"]
        text = ["tags t", " ".join(["sums", *sums])]
        for at, name in enumerate(sums):
            text += ["state p" + "abcdefghijklmnopqrstu"[at], "on t go p" + "abcdefghijklmnopqrstuv"[at + 1]]
            text += [name + " = x", "end none"]
        end = sums[0] + "".join([" + ( " + name for name in sums[1:-1]]) + " + " + sums[-1] + " )" * (len(sums) - 2)
        text += ["state pv", "on t go pv", "end " + end]
        self.assertEqual(most_open(end.split()), 19)
        made = joined(fold(["t"]), Loop("\n".join(text)))
        row = ["t"] * 21
        self.assertEqual(made.tree(row), (fold(["t"]).tree(row), Loop("\n".join(text)).tree(row)))
        without(made, "t"), restarting(Loop("\n".join(text)), "t")

    def test_swap(self):
        loop = Loop(SWAP)
        self.check_without(loop, "u")
        self.check_restarting(loop, "t")


class TestErrors(unittest.TestCase):
    def test_bad_names(self):
        for bad in ("", "x", "on", "T", "a b", "aaaaaaaaaaaaa", "t1", "none"):
            for tags in ([bad], ["t", bad], ["t", bad, "go", bad], [bad, bad]):
                for maker in (fold, back_fold, by_tag):
                    with self.assertRaises(BadName) as caught:
                        maker(tags)
                    self.assertEqual(caught.exception.name, bad)
                for maker in NUMBERED.values():
                    for k in (0, 3, 7):
                        with self.assertRaises(BadName) as caught:
                            maker(tags, k)
                        self.assertEqual(caught.exception.name, bad)

    def test_bad_counts(self):
        for maker in NUMBERED.values():
            for k in (-1, 0, 7, 100):
                with self.assertRaises(BadCount) as caught:
                    maker(["t"], k)
                self.assertEqual(caught.exception.count, k)
        with self.assertRaises(BadCount) as caught:
            by_tag(["q", "r", "s", "t", "u"])
        self.assertEqual(caught.exception.count, 5)
        self.assertRaises(BadName, by_tag, ["q", "r", "s", "t", "end"])

    def test_no_tag(self):
        for maker in (without, restarting):
            for tag in ("", "v", "a", "tt"):
                with self.assertRaises(NoTag) as caught:
                    maker(fold(["t", "u"]), tag)
                self.assertEqual(caught.exception.name, tag)

    def test_other_tags_come_before_too_many(self):
        twice = Loop(DOUBLED)
        self.assertRaises(OtherTags, joined, twice, fold(["t", "u"]))
        self.assertRaises(OtherTags, joined, fold(["t", "u"]), fold(["u", "t"]))
        self.assertRaises(TooMany, joined, twice, fold(["t"]))
        self.assertRaises(TooMany, joined, fold(["t"]), twice)
        joined(twice, Loop(SILENT))

    def test_too_many_goes_by_states_that_no_list_reaches(self):
        text = FOLD + "\nstate q\non t go q\na = x + x\nend none"
        self.assertRaises(TooMany, joined, Loop(text), Loop(FOLD))
        joined(Loop(text), Loop(SILENT))

    def test_too_many_goes_tag_by_tag(self):
        text = "tags t u\nsums a\nstate s\non t go s\n%s\non u go s\n%s\nend none"
        one, two = Loop(text % ("a = x + x", "a = none")), Loop(text % ("a = none", "a = x + x"))
        self.assertEqual(joined(one, two).tree(["t", "u"]), None)
        self.assertRaises(TooMany, joined, one, Loop(text % ("a = x", "a = none")))


if __name__ == "__main__":
    unittest.main()
