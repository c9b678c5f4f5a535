"""Machines for what may happen in several ways, against a walk through all ways."""

import random
import unittest
from itertools import product
from unittest import mock

from foldplans.determined import determined
from tests.samples import Soon


def drawn(number, most=7):
    """Images, accepting numbers, and levels, that are drawn."""
    draw = random.Random(number)
    many = draw.randrange(1, most + 1)
    density = draw.choice([0.1, 0.2, 0.4])
    levels = [0] + sorted(draw.randrange(1 + number % 4) for _ in range(many - 1))
    images = [
        [
            sum(1 << goal for goal in range(many) if levels[goal] >= levels[place] and draw.random() < density)
            for place in range(many)
        ]
        for _ in range(1 + number % 3)
    ]
    return images, sum(1 << place for place in range(many) if draw.random() < 0.3), levels


def accepts(images, accepting, row):
    """Whether one of the ways of a row ends in an accepting number."""
    places = {0}
    for tag in row:
        places = {goal for place in places for goal in range(len(images[tag])) if images[tag][place] >> goal & 1}
    return any(accepting >> place & 1 for place in places)


def answer(machine, row):
    state = 0
    for tag in row:
        state = machine.nexts[state][tag]
    return machine.accepting[state]


class TestDetermined(unittest.TestCase):
    def check(self, images, accepting, levels, length):
        machine = determined(images, accepting, levels)
        for many in range(length + 1):
            for row in product(range(len(images)), repeat=many):
                self.assertEqual(answer(machine, row), accepts(images, accepting, row), row)
        return machine

    def test_small_ones(self):
        for number in range(300):
            self.check(*drawn(number), [10, 6, 4][number % 3])

    def test_small_ones_the_long_way(self):
        with mock.patch("foldplans.determined._FIRST_LIMIT", 1):
            for number in range(300):
                self.check(*drawn(number), [9, 6, 4][number % 3])

    def test_greater_ones(self):
        for number in range(12):
            with Soon(30):
                self.check(*drawn(number, 60), [12, 7, 5][number % 3])

    def test_the_tag_so_many_places_ahead_of_the_end(self):
        # Read forwards, all of the latest tags count; read backwards, one of them.
        for many in (3, 9):
            images = [[1] + [1 << (at + 1) if at < many else 0 for at in range(1, many + 1)] for _ in range(2)]
            images[1][0] = 3
            machine = self.check(images, 1 << many, [0] * (many + 1), 11)
            self.assertEqual(len(machine.nexts), 2 ** many)

    def test_the_tag_so_many_places_behind_the_beginning(self):
        for many in (3, 12):
            images = [[1 << (at + 1) if at < many else 1 << many for at in range(many + 1)] for _ in range(2)]
            images[0][many - 1] = 0
            machine = self.check(images, 1 << many, [0] * (many + 1), 9)
            self.assertEqual(len(machine.nexts), many + 2)


if __name__ == "__main__":
    unittest.main()
