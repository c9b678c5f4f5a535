"""Pieces: each cut of a list, joined in any order, against the summary of the whole list and the run."""

import random
import unittest
from itertools import product

from foldplans.errors import BadTag, NotHere, NotNeighbours
from foldplans.loops import Loop
from foldplans.makers import fold, lanes, latest, restarting
from foldplans.pieces import Summary
from tests.loop_texts import BACK, FOLD, SILENT, SWAP, Busy
from tests.reference import Spelled, walk
from tests.rewriting import drawn_text


def added(one, two):
    return one + two


def reached_names(text):
    spelled = Spelled(text)
    found = [spelled.states[0]]
    for state in found:
        found += sorted({spelled.goals[state, tag] for tag in spelled.tags} - set(found))
    return found


def parts_by_hand(text, state, items, operation):
    """The state behind a piece, and for each sum its parts."""
    spelled = Spelled(text)
    held = {name: [name] for name in spelled.sums}
    for tag, value in items:
        changes = spelled.changes[state, tag]
        words_used = {word for _, words in changes for word in words}
        found = {}
        for name, words in changes:
            parts = [part for word in words if word not in ("+", "(", ")", "none")
                     for part in (held[word] if word != "x" else [(value,)])]
            found[name] = parts
        held = {name: [] if name in words_used else parts for name, parts in held.items()}
        held.update(found)
        state = spelled.goals[state, tag]
    return state, {name: met(parts, operation) for name, parts in held.items()}


def met(parts, operation):
    """The parts with all values put together that stand side by side."""
    found = []
    for part in parts:
        if found and isinstance(part, tuple) and isinstance(found[-1], tuple):
            found[-1] = (operation(found[-1][0], part[0]),)
        else:
            found.append(part)
    return found


def shown(summary, text):
    """All that a summary tells."""
    sums = Spelled(text).sums
    return {
        state: (summary.behind(state), {name: summary.parts(state, name) for name in sums})
        for state in reached_names(text)
    }


class TestSummaries(unittest.TestCase):
    def check(self, text, items, operation):
        loop = Loop(text)
        summary = Summary(loop, items, operation)
        expected = {state: parts_by_hand(text, state, items, operation) for state in reached_names(text)}
        self.assertEqual(shown(summary, text), expected)
        counts = [sum(isinstance(part, tuple) for parts in told.values() for part in parts)
                  for _, told in expected.values()]
        self.assertEqual(summary.most(), max(counts))
        self.assertEqual(summary.result(), loop.run(items, operation))
        return summary

    def test_short_lists(self):
        for text in (FOLD, BACK, SWAP, SILENT, lanes(["t"], 3).text, latest(["t"], 3).text):
            tags = Spelled(text).tags
            for many in range(6):
                for row in product(tags, repeat=many):
                    items = [(tag, "abcdef"[at]) for at, tag in enumerate(row)]
                    self.check(text, items, added)

    def test_drawn_loops(self):
        draw = random.Random(1)
        for number in range(300):
            text = drawn_text(number, 1 + number % 2)
            tags = Spelled(text).tags
            items = [(draw.choice(tags), draw.choice(["", "p", "q", "rs"])) for _ in range(draw.randrange(12))]
            self.check(text, items, added)

    def test_values_that_are_tuples_or_empty(self):
        for text in (FOLD, SWAP, latest(["t", "u"], 2).text):
            self.check(text, [("t", ()), ("t", (1, 2)), ("t", (3,)), ("t", ())], added)
            self.check(text, [("t", ""), ("t", ""), ("t", "")], added)
            self.check(text, [("t", 0), ("t", 0), ("t", 0)], max)

    def test_told_lists_are_new(self):
        items = [("t", 1)]
        summary = Summary(Loop(FOLD), items, max)
        items.append(("t", 9))
        summary.parts("r", "a").append("a")
        self.assertEqual(summary.parts("r", "a"), ["a", (1,)])
        self.assertEqual(Summary(Loop(FOLD), (("t", 1),), max).parts("s", "a"), [(1,)])

    def test_result_needs_no_grouping(self):
        def pair(left, right):
            return (left, right)

        draw = random.Random(2)
        for number in range(200):
            text = drawn_text(number, 1 + number % 2)
            tags = Spelled(text).tags
            items = [(draw.choice(tags), at) for at in range(draw.randrange(9))]
            loop = Loop(text)
            self.assertEqual(Summary(loop, items, pair).result(), loop.run(items, pair))
            self.assertEqual(Summary(loop, items, lambda x, y: 2 * x - y).result(),
                             loop.run(items, lambda x, y: 2 * x - y))

    def test_the_walk_of_the_start(self):
        items = [("t", "p"), ("t", "q"), ("u", "r"), ("t", "s")]
        state, held = walk(SWAP, items, added)[-1]
        summary = Summary(Loop(SWAP), items, added)
        self.assertEqual(summary.behind("s"), state)
        for name, value in held.items():
            self.assertEqual(summary.parts("s", name), [(value,)])


class TestJoined(unittest.TestCase):
    def test_each_cut_in_each_order(self):
        for text in (FOLD, BACK, SWAP, lanes(["t", "u"], 2).text, restarting(latest(["t", "u"], 2), "u").text):
            loop = Loop(text)
            for many in range(5):
                for row in product(loop.tags, repeat=many):
                    items = [(tag, "abcde"[at]) for at, tag in enumerate(row)]
                    whole = shown(Summary(loop, items, added), text)
                    for first in range(many + 1):
                        for last in range(first, many + 1):
                            cut = [items[:first], items[first:last], items[last:]]
                            one, two, three = [Summary(loop, piece, added) for piece in cut]
                            before = [shown(piece, text) for piece in (one, two, three)]
                            for told in (one.then(two).then(three), one.then(two.then(three))):
                                self.assertEqual(shown(told, text), whole)
                                self.assertEqual(told.result(), loop.run(items, added))
                            self.assertEqual([shown(piece, text) for piece in (one, two, three)], before)

    def joined_in_some_order(self, pieces, draw):
        pieces = list(pieces)
        while len(pieces) > 1:
            at = draw.randrange(len(pieces) - 1)
            pieces[at:at + 2] = [pieces[at].then(pieces[at + 1])]
        return pieces[0]

    def test_long_lists(self):
        draw = random.Random(3)
        for number in range(60):
            if number % 2:
                text = drawn_text(number, 1 + number % 3 // 2)
            else:
                names = ["a", "b", "c", "d", "e"]
                text = Busy(number).busy(["t", "u"], names, ["s", "r", "p", "q", "o", "n"], 1)
            loop = Loop(text)
            items = [(draw.choice(loop.tags), draw.choice(["", "p", "q"])) for _ in range(draw.randrange(200))]
            pieces, at = [], 0
            while at < len(items) or not pieces:
                many = draw.randrange(41)
                pieces.append(Summary(loop, items[at:at + many], added))
                at += many
            told = self.joined_in_some_order(pieces, draw)
            whole = Summary(loop, items, added)
            self.assertEqual(shown(told, text), shown(whole, text), number)
            self.assertEqual(told.result(), loop.run(items, added))
            self.assertEqual(told.most(), whole.most())

    def test_empty_pieces(self):
        loop = Loop(SWAP)
        nothing, some = Summary(loop, [], added), Summary(loop, [("t", "p"), ("t", "q")], added)
        for told in (nothing.then(some), some.then(nothing), nothing.then(some).then(nothing)):
            self.assertEqual(shown(told, SWAP), shown(some, SWAP))
        self.assertEqual(nothing.then(nothing).parts("p", "b"), ["b"])
        self.assertEqual([nothing.most(), nothing.then(nothing).result()], [0, None])

    def test_the_operation_of_the_first_one(self):
        loop = Loop(FOLD)
        one, two = Summary(loop, [("t", 3), ("t", 5)], max), Summary(loop, [("t", 4), ("t", 1)], min)
        self.assertEqual(one.then(two).result(), 5)
        self.assertEqual(two.then(one).result(), 1)
        lane = lanes(["t"], 2)
        one, two = Summary(lane, [("t", 3)], max), Summary(lane, [("t", 4)], min)
        self.assertEqual([one.then(two).result(), two.then(one).result()], [4, 3])
        self.assertEqual(one.then(two).then(one).result(), 4)

    def test_equal_texts_are_enough(self):
        one, two = Summary(Loop(FOLD), [("t", 1)], max), Summary(Loop(FOLD), [("t", 2)], max)
        self.assertEqual(one.then(two).result(), 2)


class TestErrors(unittest.TestCase):
    def test_bad_tags(self):
        called = []
        for items, index in (([("u", 1)], 0), ([("t", 1), ("t", 1), ("", 1), ("u", 1)], 2)):
            with self.assertRaises(BadTag) as caught:
                Summary(Loop(FOLD), items, lambda x, y: called.append(0))
            self.assertEqual(caught.exception.index, index)
        self.assertEqual(called, [])

    def test_not_here(self):
        loop = Loop(FOLD + "\nstate q\non t go q\nend none")
        summary = Summary(loop, [("t", 1)], max)
        for state in ("q", "a", "t", "", "x", "sr"):
            for call in (summary.behind, lambda name: summary.parts(name, "a"), lambda name: summary.parts(name, "c")):
                with self.assertRaises(NotHere) as caught:
                    call(state)
                self.assertEqual(caught.exception.name, state)
        for name in ("s", "t", "x", "", "b"):
            with self.assertRaises(NotHere) as caught:
                summary.parts("s", name)
            self.assertEqual(caught.exception.name, name)

    def test_not_neighbours(self):
        one = Summary(Loop(FOLD), [], max)
        for text in (BACK, FOLD.replace("a + x", "a + ( x )"), SILENT):
            self.assertRaises(NotNeighbours, one.then, Summary(Loop(text), [], max))
        two = Summary(lanes(["t"], 2), [], max)
        self.assertRaises(NotNeighbours, Summary(fold(["t"]), [], max).then, two)


if __name__ == "__main__":
    unittest.main()
