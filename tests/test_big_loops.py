"""Loops of 200 states, 12 tags and 12 sums: what has to be told soon, and far states."""

import unittest

from foldplans.costs import cost, waste
from foldplans.errors import BadLoop, BadTag, EmptySum
from foldplans.loops import Loop
from tests import reference
from tests.big_loops import STATES, SUMS, TAGS, first_row_to, ring_goal, ring_text, scattering_text
from tests.samples import Soon


def far_rows():
    """Rows of 300 tags that go through the loop in different ways."""
    return [[TAGS[(k * step + step) % 12] for k in range(300)] for step in (0, 1, 5, 7, 11)]


class TestReadAndRun(unittest.TestCase):
    def test_read(self):
        text = ring_text()
        with Soon():
            loop = Loop(text)
        self.assertEqual([loop.tags, loop.sums, loop.states], [tuple(TAGS), tuple(SUMS), tuple(STATES)])
        self.assertTrue(loop.is_single)
        self.assertTrue(loop == Loop(text))

    def test_many_loops_are_read(self):
        texts = [ring_text({(at, at % 12): [f"{SUMS[at % 11]} = x"]}) for at in range(12, 200)]
        with Soon():
            for text in texts:
                loop = Loop(text)
                self.assertEqual(cost(loop, []), 0)
                loop.tree(TAGS)

    def test_rows_of_300_tags(self):
        text = ring_text()
        loop = Loop(text)
        for row in far_rows():
            for many in (300, 299, 298):
                with Soon():
                    found = loop.tree(row[:many])
                self.assertTrue(found == reference.tree(text, row[:many]))
                calls = []
                items = [(tag, f"v{at}") for at, tag in enumerate(row[:many])]
                loop.run(items, lambda x, y: calls.append((x, y)) or x + y)
                told = []
                reference.run(text, items, lambda x, y: told.append((x, y)) or x + y)
                self.assertEqual(calls, told)

    def test_costs(self):
        text = ring_text()
        loop = Loop(text)
        for row in far_rows():
            for many in (0, 1, 13, 150, 299, 300):
                with Soon():
                    told = [cost(loop, row[:many]), waste(loop, row[:many])]
                self.assertEqual(told, [reference.cost(text, row[:many]), reference.waste(text, row[:many])])
        with self.assertRaises(BadTag) as caught:
            cost(loop, far_rows()[1][:299] + ["t"])
        self.assertEqual(caught.exception.index, 299)

    def test_steps(self):
        loop = Loop(ring_text())
        row = far_rows()[2]
        with Soon():
            found = list(loop.steps([(tag, 1) for tag in row], lambda x, y: x + y))
        self.assertEqual(len(found), 301)
        self.assertEqual(found[12], (STATES[12], {name: 1 for name in SUMS}))

    def test_a_wrong_line_far_down(self):
        lines = ring_text().split("\n")
        for at in (len(lines) - 1, len(lines) - 2, len(lines) // 2):
            with Soon():
                with self.assertRaises(BadLoop) as caught:
                    Loop("\n".join(lines[:at] + ["a b"] + lines[at + 1:]))
            self.assertEqual(caught.exception.line, at + 1)


class TestFarStates(unittest.TestCase):
    def test_an_empty_sum_behind_a_far_state(self):
        for at, number in ((199, 0), (150, 7), (198, 11), (100, 3)):
            text = ring_text({(at, number): ["c = none"]})
            row = first_row_to(ring_goal, at) + [number]
            goal = ring_goal(at, number)
            if goal % 3:
                # The first tag uses all sums.
                row.append(0)
            with Soon():
                with self.assertRaises(EmptySum) as caught:
                    Loop(text)
            self.assertEqual(caught.exception.row, [TAGS[k] for k in row], (at, number))

    def test_an_empty_sum_that_is_never_used_is_let(self):
        lines = ring_text().split("\n")
        lines[1] += " mm"
        with Soon():
            Loop("\n".join([f"{line}\nmm = none" if line == "l = ( a ) + x" else line for line in lines]))

    def test_x_twice_in_a_far_state(self):
        for at in (199, 150, 13):
            with Soon():
                self.assertFalse(Loop(ring_text({(at, 11): ["c = x + ( c + x )"]})).is_single)
        self.assertFalse(Loop(ring_text({(3, 11): ["d = x + x"]})).is_single)

    def test_a_state_that_no_list_reaches(self):
        text = ring_text() + "\nstate far\n" + "\n".join(f"on {tag} go far\na = x + b + x" for tag in TAGS) + "\nend c"
        with Soon():
            self.assertTrue(Loop(text).is_single)

    def test_all_sets_of_empty_sums_in_all_states(self):
        with Soon():
            Loop(scattering_text("none"))
        for end, name in (("l", "l"), ("b + ( l )", "b"), (" + ".join(SUMS), "a")):
            with Soon():
                with self.assertRaises(EmptySum) as caught:
                    Loop(scattering_text(end))
            told = caught.exception.row
            self.assertEqual(told, self.shortest(end.replace("(", "").replace(")", "").split(" + ")), name)

    def shortest(self, names):
        """The first row to the last state behind which one of the sums is empty."""
        places = [SUMS.index(name.strip()) for name in names]
        found = []
        for place in places:
            rows = {(0, False): []}
            nodes = [(0, False)]
            for at, full in nodes:
                for number in range(12):
                    node = ((at + number + 1) % 200, at % 2 == 1 if number == place else full)
                    if node not in rows:
                        rows[node] = rows[at, full] + [number]
                        nodes.append(node)
            found.append(rows[199, False])
        best = min(found, key=lambda row: (len(row), row))
        return [TAGS[number] for number in best]


if __name__ == "__main__":
    unittest.main()
