"""Matchings, against a walk over the three conditions of the document."""

import copy
import random
import unittest

from foldplans.compare import agree
from foldplans.errors import Doubled, NoNormal, OtherTags
from foldplans.least import normal_form
from foldplans.loops import Loop
from foldplans.makers import back_fold, blocks, by_tag, fold, lanes, latest, restarting
from foldplans.matchings import is_matching, matching
from foldplans.rules import all_kinds
from tests.loop_texts import DOUBLED, FOLD, SILENT
from tests.rewriting import Rewriter
from tests.single_pairs import KINDS, comb, great_pairs, quad, single_pairs
from tests.walk_of_matchings import Walk

HELD = (
    "tags t\nsums c b\nstate s\non t go r\nb = x\nend none\nstate r\non t go p\nc = b\nb = x\nend b\n"
    "state p\non t go p\nc = c + b\nb = x\nend c + b"
)


class Changer:
    """Changes matchings at one to three places, in the same way each time for the same number."""

    def __init__(self, number, p, q):
        self.draw = random.Random(number)
        self.p = p
        self.q = q

    def changed(self, value):
        value = copy.deepcopy(value)
        for _ in range(self.draw.randrange(1, 4)):
            if value:
                self.change(value)
        return value

    def change(self, value):
        at = self.draw.randrange(len(value))
        if not isinstance(value[at], tuple) or len(value[at]) != 3 or not isinstance(value[at][2], list):
            return
        state, other, told = value[at]
        told = list(told)
        choice = self.draw.randrange(9)
        if choice == 0:
            del value[at]
        elif choice == 1:
            value.insert(self.draw.randrange(len(value) + 1), (state, other, told))
        elif choice == 2:
            value.append((self.draw.choice(self.p.states), self.draw.choice(self.q.states), told[:1]))
        elif choice == 3 and told:
            del told[self.draw.randrange(len(told))]
            value[at] = (state, other, told)
        elif choice == 4 and told:
            value[at] = (state, other, [*told, self.draw.choice(told)])
        elif choice == 5 and len(told) > 1:
            (one, two), (three, four) = told[0], told[1]
            value[at] = (state, other, [(f"{one} + ( {three} )", f"{two} + {four}"), *told[2:]])
        elif choice == 6 and told:
            value[at] = (state, other, [(right, left) for left, right in told])
        elif choice == 7:
            value[at] = self.draw.choice([[state, other, told], (state, other, tuple(told)), (state, other), None])
        elif told:
            which = self.draw.randrange(len(told))
            told[which] = tuple(self.side(side) for side in told[which])
            value[at] = (state, other, told)

    def side(self, side):
        if not isinstance(side, str):
            return side
        choice = self.draw.randrange(8)
        words = side.split(" ")
        if choice == 0:
            return "( " + side + " )"
        if choice == 1:
            return " + ".join(reversed(side.split(" + ")))
        if choice == 2:
            return side + " + x"
        if choice == 3:
            return self.draw.choice(["", " ", "x", "none", side + " ", "( " * 21 + side + " )" * 21, 3, None])
        if choice == 4:
            return " + ".join(self.draw.choice([self.p.sums, self.q.sums]) or ["x"])
        if choice == 5:
            return " ".join(["(", words[0], ")", *words[1:]])
        return side


class TestMatchings(unittest.TestCase):
    def check(self, p, q, kind):
        """A told matching is one by the walk, too; there is one exactly if the loops agree."""
        told = matching(p, q, kind)
        self.assertEqual(told is not None, agree(p, q, kind))
        if told is not None:
            self.assertIs(type(told), list)
            self.assertTrue(Walk(p, q, kind).holds(told), told)
            self.assertIs(is_matching(p, q, kind, told), True)
        return told

    def test_drawn_pairs(self):
        found = 0
        for number, kind, p, q in single_pairs(range(800)):
            found += self.check(p, q, kind) is not None
            for other in KINDS:
                self.check(p, q, other)
                self.check(p, p, other)
                self.check(p, normal_form(p, other), other)
        self.assertGreater(found, 400)
        for number, kind, p, q in great_pairs(range(100)):
            self.check(p, q, kind)

    def test_changed_matchings(self):
        answers = {True: 0, False: 0}
        for number, kind, p, q in single_pairs(range(900)):
            told = matching(p, q, kind)
            if told is None:
                continue
            for turn in range(6):
                value = Changer(number * 6 + turn, p, q).changed(told)
                before = copy.deepcopy(value)
                expected = Walk(p, q, kind).holds(value)
                self.assertIs(is_matching(p, q, kind, value), expected, (number, kind, value))
                self.assertEqual(value, before)
                answers[expected] += 1
        self.assertGreater(answers[True], 200)
        self.assertGreater(answers[False], 200)

    def test_just_the_kind_that_is_asked(self):
        for number, kind, p, q in single_pairs(range(3, 900, 7)):
            told = matching(p, q, kind)
            if told is not None:
                for other in KINDS:
                    self.assertIs(is_matching(p, q, other, told), Walk(p, q, other).holds(told), (number, other))

    def test_makers(self):
        for p, q, kind in (
            (fold(["t"]), Loop(HELD), "trees"), (fold(["t"]), back_fold(["t"]), "pairs"),
            (fold(["t"]), blocks(["t"], 4), "words"), (lanes(["t"], 4), blocks(["t"], 3), "bags"),
            (by_tag(["t", "u"]), lanes(["t", "u"], 3), "bags"),
            (restarting(latest(["t", "u"], 3), "t"), restarting(latest(["t", "u"], 3), "t"), "trees"),
        ):
            self.assertIsNot(self.check(p, q, kind), None)
        self.assertIs(self.check(fold(["t"]), lanes(["t"], 2), "words"), None)
        quads = [quad("abcd", []), quad("badc", []), quad("abcd", ["a = b", "b = a", "c = d", "d = c"])]
        for p in quads:
            for q in quads:
                self.assertIsNot(self.check(p, q, "pairs"), None)

    def test_more_brackets_than_one_expression_may_have(self):
        names = [one + two for one in "abc" for two in "abcdefghijkl"][:34]
        states = ["z" + name for name in names] + ["zy", "zz"]
        text = ["tags t u", " ".join(["sums", *names])]
        for at, name in enumerate(names):
            text += ["state " + states[at], f"on t go {states[at + 1]}", name + " = x", f"on u go {states[at]}", "end none"]
        text += ["state zy", "on t go zz", f"{names[17]} = {comb(names[17:])}", "on u go zy", "end none"]
        text += ["state zz", "on t go zz", "on u go zz", "end " + comb(names[:18])]
        p = Loop("\n".join(text))
        for number in range(3):
            rewritten = Loop(Rewriter(number).rewritten_with(p.text, ["y" + name for name in names + states]))
            for kind in KINDS:
                self.assertIsNot(self.check(p, rewritten, kind), None)
        self.assertIsNot(self.check(p, normal_form(p, "words"), "words"), None)

    def test_the_example(self):
        p, q = fold(["t"]), Loop(HELD)
        one, two, three = "s", "r", "p"
        start, later = p.states
        name = p.sums[0]
        value = [(start, one, []), (later, two, [(name, "b")]), (later, three, [(name, "c + b")])]
        self.assertIs(is_matching(p, q, "words", value), True)
        self.assertIs(is_matching(p, q, "bags", [*value[:2], (later, three, [(name, "b + c")])]), True)
        self.assertIs(is_matching(p, q, "words", [*value[:2], (later, three, [(name, "b + c")])]), False)
        self.assertIs(is_matching(p, q, "pairs", [*value[:2], (later, three, [(name, "b + c")])]), True)
        self.assertIs(is_matching(p, q, "trees", [*value[:2], (later, three, [(name, "( c ) + ( b )")])]), True)
        for bad in (["c", "b"], [name, "c + b", "b"], (name,), [name, "c + b"]):
            self.assertIs(is_matching(p, q, "words", [*value[:2], (later, three, [bad])]), False)

    def test_values_of_all_sorts(self):
        p = fold(["t"])
        start, later = p.states
        right = [(start, start, []), (later, later, [("a", "a")])]
        self.assertIs(is_matching(p, p, "trees", right), True)
        bad = [
            None, True, False, 0, 1, "", "s", (), [], {}, [[]], [()], [None], [True], [{}], {"a": []}, tuple(right),
            [list(entry) for entry in right], [*right, None], [*right, ()], [*right, (later, later)],
            [right[0], (later, later, (("a", "a"),))], [right[0], (later, later, [["a", "a"]])],
            [right[0], (later, later, [("a", "a", "a")])], [right[0], (later, later, [("a",)])],
            [right[0], (later, later, {"a": "a"})], [right[0], (later, later, "aa")], [right[0], (later, None, [])],
            [right[0], (True, later, [("a", "a")])], [right[0], (later, later, [(None, "a")])],
            [right[0], (later, later, [("a", 1)])], [right[0], (later, later, [("a", ["a"])])],
            [right[0], (later, later, [("a", "")])], [right[0], (later, later, [("a", "a a")])],
            [right[0], (later, later, [("a", "a\n")])], [right[0], (later, later, [("a", " a")])],
            [right[0], (later, later, [("a", "x")])], [right[0], (later, later, [("a", "a + x")])],
            [right[0], (later, later, [("a", "b")])], [right[0], (later, later, [("a", "a"), ("a", "a")])],
            [right[0], (later, later, [("a + a", "a")])], [right[0], (later, "q", [("a", "a")])],
            [right[1]], [right[0]], [right[0], (later, later, [])], [[[[[]]]]], [((), (), ())], [(start, start, [])] * 3,
            [right[0], ([later], later, [("a", "a")])], [right[0], ({}, later, [("a", "a")])],
        ]
        for value in bad:
            before = copy.deepcopy(value)
            self.assertIs(is_matching(p, p, "trees", value), False, value)
            self.assertEqual(value, before)
        good = [
            right[::-1], right * 2, [right[0], (later, later, [("( a )", "a")])],
            [right[0], (later, later, [("( " * 20 + "a" + " )" * 20, "a")])],
        ]
        for value in good:
            self.assertIs(is_matching(p, p, "trees", value), True, value)
        self.assertIs(is_matching(p, p, "trees", [right[0], (later, later, [("( " * 21 + "a" + " )" * 21, "a")])]), False)

    def test_entries_of_states_that_no_list_reaches(self):
        text = FOLD + "\nstate q\non t go q\na = a + x + x\nend a"
        p = Loop(text)
        right = [("s", "s", []), ("r", "r", [("a", "a")])]
        self.assertIs(is_matching(p, p, "words", right), True)
        self.assertIs(is_matching(p, p, "words", [*right, ("q", "q", [("a", "a")])]), True)
        self.assertIs(is_matching(p, p, "words", [*right, ("q", "q", [])]), False)
        self.assertIs(is_matching(p, p, "words", [*right, ("q", "r", [("a", "a")])]), False)
        self.assertIs(is_matching(p, Loop(FOLD), "words", right), True)
        other = Loop(text.replace("a + x + x", "x + a + x"))
        for kind in KINDS:
            value = [*right, ("q", "q", [("a", "a")])]
            self.assertIs(is_matching(p, other, kind, value), kind in ("bags", "pairs"))

    def test_no_result(self):
        p = Loop(SILENT)
        for kind in KINDS:
            self.assertEqual(matching(p, p, kind), [("s", "s", [])])
            self.assertIs(matching(p, fold(["t"]), kind), None)
            self.assertIs(is_matching(p, p, kind, []), False)

    def test_told_matchings_are_new(self):
        p = fold(["t"])
        matching(p, p, "trees").clear()
        self.assertEqual(len(matching(p, p, "trees")), 2)


class TestErrors(unittest.TestCase):
    def test_the_errors_in_their_order(self):
        single, twice = fold(["t"]), Loop(DOUBLED)
        for call in (matching, lambda p, q, kind: is_matching(p, q, kind, None)):
            self.assertRaises(OtherTags, call, fold(["t", "u"]), fold(["u", "t"]), "one")
            self.assertRaises(OtherTags, call, twice, fold(["u"]), "one")
            for kind in [kind for kind in all_kinds() if kind not in KINDS] + ["", "bag"]:
                with self.assertRaises(NoNormal) as caught:
                    call(twice, single, kind)
                self.assertEqual(caught.exception.name, kind)
            for kind in KINDS:
                self.assertRaises(Doubled, call, twice, single, kind)
                self.assertRaises(Doubled, call, single, twice, kind)

    def test_written_otherwise(self):
        rewriter = Rewriter(1)
        for kind in KINDS:
            other = Loop(rewriter.rewritten(FOLD, kind))
            self.assertTrue(Walk(Loop(FOLD), other, kind).holds(matching(Loop(FOLD), other, kind)))


if __name__ == "__main__":
    unittest.main()
