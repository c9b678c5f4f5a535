"""Books: histories of calls, against a book of the test's own that keeps all that there was."""

import random
import unittest

from foldplans.books import Book
from foldplans.compare import agree, parting
from foldplans.errors import (
    BadName, Barred, Doubled, FoldError, NoKind, NoLoop, NotAlike, NothingToUndo, OtherTags,
)
from foldplans.loops import Loop
from foldplans.makers import back_fold, blocks, by_tag, earliest, every, fold, lanes, latest
from foldplans.rules import all_kinds
from foldplans.trees import do_agree
from tests.loop_texts import DOUBLED, FOLD, SILENT
from tests.rewriting import Rewriter

TWICE = FOLD.replace("a = x", "a = x + x").replace("a + x", "a + x + x")


def loops():
    """Loops over one tag, some of which agree under some kinds."""
    found = [fold(["t"]), back_fold(["t"]), lanes(["t"], 2), blocks(["t"], 2), latest(["t"], 1), earliest(["t"], 1)]
    found += [Loop(SILENT), Loop(DOUBLED), Loop(TWICE), every(["t"], 2)]
    found += [Loop(Rewriter(number).rewritten(FOLD)) for number in range(3)]
    return found


class Kept:
    """What a book has to do: all states there ever were, as plain dicts."""

    def __init__(self, kind):
        self.past = []
        self.now = (kind, {})

    def change(self, kind, kept):
        self.past.append(self.now)
        self.now = (kind, kept)

    def keep(self, name, loop):
        kind, kept = self.now
        if not name.isalpha() or not name.islower() or name in ("on", "x", "end") or len(name) > 12:
            raise BadName(name)
        if any(first.tags != loop.tags for first, _ in kept.values()):
            raise OtherTags()
        if kind in ("trees", "pairs") and not loop.is_single:
            raise Doubled()
        first = kept.get(name, (loop, loop))[0]
        if not agree(first, loop, kind):
            raise NotAlike([tag for tag, _ in parting(first, loop, kind).given])
        self.change(kind, {**kept, name: (first, loop)})

    def drop(self, name):
        kind, kept = self.now
        if name not in kept:
            raise NoLoop(name)
        self.change(kind, {other: kept[other] for other in kept if other != name})

    def set_kind(self, kind):
        _, kept = self.now
        if kind not in all_kinds():
            raise NoKind(kind)
        if kind in ("trees", "pairs") and not all(loop.is_single for pair in kept.values() for loop in pair):
            raise Doubled()
        names = sorted(name for name, pair in kept.items() if not agree(*pair, kind))
        if names:
            raise Barred(names)
        self.change(kind, kept)

    def undo(self):
        if not self.past:
            raise NothingToUndo()
        self.now = self.past.pop()


class BookCase(unittest.TestCase):
    def same(self, book, kept):
        """Whether a book shows what is kept."""
        kind, told = kept.now
        self.assertEqual(book.kind, kind)
        self.assertEqual(len(book), len(told))
        self.assertEqual(book.loop_names(), sorted(told))
        for name in ("p", "q", "r", "old"):
            self.assertIs(name in book, name in told)
            if name in told:
                self.assertTrue(book.first_of(name) == told[name][0] and book[name] == told[name][1])
            else:
                for call in (lambda: book[name], lambda: book.first_of(name)):
                    with self.assertRaises(NoLoop) as caught:
                        call()
                    self.assertEqual(caught.exception.name, name)

    def both(self, book, kept, one, two):
        """Does the same to both; both refuse it in the same way, or both do it."""
        errors = []
        for call in (one, two):
            try:
                call()
                errors.append(None)
            except FoldError as error:
                errors.append((type(error), vars(error)))
        self.assertEqual(errors[0], errors[1])
        return errors[0] is None

    def step(self, book, kept, draw, choices):
        name = draw.choice(["p", "p", "q", "r", "old", "on", "P", ""])
        choice = draw.randrange(10)
        if choice < 5:
            loop = draw.choice(choices)

            def put():
                book[name] = loop

            return self.both(book, kept, put, lambda: kept.keep(name, loop))
        if choice < 7:
            kind = draw.choice([*all_kinds(), "none"])
            return self.both(book, kept, lambda: book.set_kind(kind), lambda: kept.set_kind(kind))
        if choice < 8:
            return self.both(book, kept, lambda: book.drop(name), lambda: kept.drop(name))
        return self.both(book, kept, book.undo, kept.undo)


class Stop(BaseException):
    """An error that is no Exception."""


class TestHistories(BookCase):
    def test_histories(self):
        choices = loops() + [fold(["t", "u"]), by_tag(["t", "u"])]
        refused = 0
        for number in range(60):
            draw = random.Random(number)
            kind = draw.choice(all_kinds())
            book, kept = Book(kind), Kept(kind)
            for _ in range(40):
                refused += not self.step(book, kept, draw, choices)
                self.same(book, kept)
            while kept.past:
                book.undo()
                kept.undo()
                self.same(book, kept)
            self.assertRaises(NothingToUndo, book.undo)
        self.assertGreater(refused, 100)

    def test_over_a_hundred_changes(self):
        draw = random.Random(5)
        book, kept = Book("one"), Kept("one")
        choices = [loop for loop in loops() if agree(loop, fold(["t"]), "one")]
        for _ in range(150):
            name, loop = draw.choice("pqr"), draw.choice(choices)
            book[name] = loop
            kept.keep(name, loop)
        self.assertEqual(len(kept.past), 150)
        for _ in range(150):
            book.undo()
            kept.undo()
            self.same(book, kept)
        self.assertRaises(NothingToUndo, book.undo)

    def test_attempts_within_histories(self):
        choices = loops()
        for number in range(60):
            draw = random.Random(number)
            kind = draw.choice(["one", "words", "bags", "pairs"])
            book, kept = Book(kind), Kept(kind)
            for _ in range(12):
                self.step(book, kept, draw, choices)
                self.attempted(book, kept, draw, choices, 3)
                self.same(book, kept)
            while kept.past:
                book.undo()
                kept.undo()
                self.same(book, kept)

    def attempted(self, book, kept, draw, choices, depth):
        """An attempt with some steps and attempts within, which ends well or with an error."""
        before = (list(kept.past), kept.now)
        error = draw.choice([None, None, ValueError("why"), KeyError("k"), Stop(), NoKind("z"), StopIteration()])
        answer = draw.choice([None, 0, False, "", [], (1, 2)])

        def action(told):
            self.assertIs(told, book)
            for _ in range(draw.randrange(4)):
                self.step(draw.choice([told, book]), kept, draw, choices)
                if depth and draw.random() < 0.4:
                    self.attempted(book, kept, draw, choices, depth - 1)
            self.same(told, kept)
            if error is not None:
                raise error
            return answer

        if error is None:
            self.assertIs(book.attempt(action), answer)
        else:
            with self.assertRaises(type(error)) as caught:
                book.attempt(action)
            self.assertIs(caught.exception, error)
            kept.past, kept.now = before
        self.same(book, kept)


class TestCalls(BookCase):
    def test_a_new_book(self):
        for kind in all_kinds():
            book = Book(kind)
            self.assertEqual([book.kind, len(book), book.loop_names()], [kind, 0, []])
            self.assertRaises(NothingToUndo, book.undo)
        for kind in ("", "none", "grouping"):
            with self.assertRaises(NoKind) as caught:
                Book(kind)
            self.assertEqual(caught.exception.name, kind)

    def test_the_first_loop_counts_not_the_latest(self):
        book = Book("bags")
        book["p"] = fold(["t"])
        book["p"] = lanes(["t"], 2)
        book.set_kind("lefts")
        self.assertRaises(Barred, book.set_kind, "words")
        book["p"] = earliest(["t"], 1)
        self.assertTrue(book.first_of("p") == fold(["t"]))
        with self.assertRaises(Barred) as caught:
            book.set_kind("bags")
        self.assertEqual(caught.exception.names, ["p"])
        book["p"] = blocks(["t"], 3)
        book.set_kind("words")
        with self.assertRaises(NotAlike) as caught:
            book["p"] = lanes(["t"], 2)
        self.assertEqual(caught.exception.row, ["t"] * 3)
        book.drop("p")
        book["p"] = lanes(["t"], 2)
        self.assertTrue(book.first_of("p") == lanes(["t"], 2))

    def test_the_row_of_not_alike(self):
        first = fold(["t", "u"])
        for kind in all_kinds():
            for other in (by_tag(["t", "u"]), latest(["t", "u"], 2), earliest(["t", "u"], 3), back_fold(["t", "u"])):
                book = Book(kind)
                book["p"] = first
                if agree(first, other, kind):
                    book["p"] = other
                    continue
                with self.assertRaises(NotAlike) as caught:
                    book["p"] = other
                row = caught.exception.row
                self.assertIs(type(row), list)
                self.assertFalse(do_agree(first.tree(row), other.tree(row), kind))
                self.assertEqual(len(row), len(parting(first, other, kind).given))
                self.assertTrue(book["p"] == first)

    def test_errors_in_their_order(self):
        book = Book("trees")
        book["p"] = fold(["t", "u"])
        for name in ("", "x", "go", "P", "aaaaaaaaaaaaa", "a b"):
            with self.assertRaises(BadName) as caught:
                book[name] = Loop(DOUBLED)
            self.assertEqual(caught.exception.name, name)
        for name in ("p", "q"):
            with self.assertRaises(OtherTags):
                book[name] = Loop(DOUBLED)
            with self.assertRaises(OtherTags):
                book[name] = fold(["u", "t"])
        book.drop("p")
        for name in ("p", "q"):
            with self.assertRaises(Doubled):
                book[name] = Loop(DOUBLED)
        book["p"] = fold(["t"])
        with self.assertRaises(Doubled):
            book["p"] = Loop(DOUBLED)
        with self.assertRaises(NotAlike) as caught:
            book["p"] = back_fold(["t"])
        self.assertEqual(caught.exception.row, ["t", "t"])

    def test_an_emptied_book_may_have_other_tags(self):
        book = Book("words")
        book["p"] = fold(["t"])
        book.drop("p")
        book["p"] = fold(["u", "v"])
        book.undo()
        book.undo()
        self.assertTrue(book["p"] == fold(["t"]))

    def test_set_kind(self):
        book = Book("words")
        book["q"], book["p"] = Loop(TWICE), fold(["t"])
        book["r"] = fold(["t"])
        with self.assertRaises(NoKind) as caught:
            book.set_kind("tree")
        self.assertEqual(caught.exception.name, "tree")
        self.assertRaises(Doubled, book.set_kind, "pairs")
        book.set_kind("one")
        book["p"], book["r"] = latest(["t"], 2), earliest(["t"], 2)
        for kind, names in (("words", ["p", "r"]), ("lefts", ["p"]), ("rights", ["r"])):
            with self.assertRaises(Barred) as caught:
                book.set_kind(kind)
            self.assertEqual(caught.exception.names, names)
        self.assertRaises(Doubled, book.set_kind, "trees")
        book.drop("q")
        with self.assertRaises(Barred) as caught:
            book.set_kind("trees")
        self.assertEqual([caught.exception.names, book.kind], [["p", "r"], "one"])

    def test_a_first_loop_that_is_not_single(self):
        book = Book("middles")
        book["p"] = Loop(TWICE)
        book["p"] = fold(["t"])
        self.assertRaises(Doubled, book.set_kind, "trees")
        self.assertRaises(Barred, book.set_kind, "words")

    def test_changes_that_make_no_difference_count(self):
        book = Book("words")
        book.set_kind("words")
        book["p"] = fold(["t"])
        book["p"] = fold(["t"])
        for many in (1, 1, 0):
            self.assertEqual(len(book), many)
            book.undo()
        self.assertRaises(NothingToUndo, book.undo)

    def test_refused_calls_do_not_count(self):
        book = Book("words")
        book["p"] = fold(["t"])
        for call in (lambda: book.drop("q"), lambda: book.set_kind("k"), lambda: book.first_of("q")):
            self.assertRaises(FoldError, call)
        with self.assertRaises(NotAlike):
            book["p"] = back_fold(["t"])
        book.undo()
        self.assertEqual(len(book), 0)
        self.assertRaises(NothingToUndo, book.undo)

    def test_told_lists_are_new(self):
        book = Book("words")
        book["p"] = fold(["t"])
        book.loop_names().append("q")
        self.assertEqual(book.loop_names(), ["p"])


class TestAttempts(unittest.TestCase):
    def test_what_the_action_returns(self):
        book = Book("words")
        for answer in (None, 0, False, "", [], (), {}, 7, "p"):
            self.assertIs(book.attempt(lambda told: answer), answer)
        self.assertIs(book.attempt(lambda told: told), book)

    def test_an_error_brings_back_what_was_undone(self):
        book = Book("words")
        book["p"] = fold(["t"])
        book["p"] = blocks(["t"], 2)
        book.set_kind("bags")
        error = ZeroDivisionError("why")

        def action(told):
            for _ in range(3):
                told.undo()
            told["q"] = lanes(["t"], 2)
            self.assertRaises(NoLoop, book.drop, "p")
            raise error

        with self.assertRaises(ZeroDivisionError) as caught:
            book.attempt(action)
        self.assertIs(caught.exception, error)
        self.assertEqual([book.kind, book.loop_names()], ["bags", ["p"]])
        book.undo()
        self.assertEqual(book.kind, "words")
        book.undo()
        self.assertTrue(book["p"] == fold(["t"]))
        book.undo()
        self.assertRaises(NothingToUndo, book.undo)

    def test_errors_of_the_book_itself(self):
        book = Book("words")

        def action(told):
            told["p"] = fold(["t"])
            told["p"] = back_fold(["t"])

        self.assertRaises(NotAlike, book.attempt, action)
        self.assertEqual(len(book), 0)
        self.assertRaises(NothingToUndo, book.undo)

    def test_changes_of_an_attempt_are_undone_one_by_one(self):
        book = Book("words")

        def action(told):
            told["p"] = fold(["t"])
            told["q"] = fold(["t"])
            told.attempt(lambda inner: inner.set_kind("bags"))
            return "done"

        self.assertEqual(book.attempt(action), "done")
        shown = []
        for _ in range(3):
            shown.append((book.kind, book.loop_names()))
            book.undo()
        self.assertEqual(shown, [("bags", ["p", "q"]), ("words", ["p", "q"]), ("words", ["p"])])
        self.assertRaises(NothingToUndo, book.undo)

    def test_attempts_within_attempts(self):
        book = Book("words")

        def inner(told):
            told["q"] = fold(["t"])
            raise KeyError("q")

        def action(told):
            told["p"] = fold(["t"])
            try:
                told.attempt(inner)
            except KeyError:
                told["r"] = fold(["t"])
            return told.loop_names()

        self.assertEqual(book.attempt(action), ["p", "r"])

        def outer(told):
            told.attempt(action)
            raise Stop()

        self.assertRaises(Stop, book.attempt, outer)
        self.assertEqual(book.loop_names(), ["p", "r"])


if __name__ == "__main__":
    unittest.main()
