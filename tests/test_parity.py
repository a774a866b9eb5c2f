"""Ranks modulo 2 and connected parts, apart from what uses them."""

import unittest

from meshcore.parity import rank_of, rest_of, summed
from meshcore.parts import joined, labels_of, part_number
from tests.disks import mixed_rank
from tests.helpers import seeded


class Parity(unittest.TestCase):

    def test_sums(self):
        self.assertEqual(summed([1, 3, 4], [2, 3, 7]), [1, 2, 4, 7])
        self.assertEqual(summed([], [5]), [5])
        self.assertEqual(summed([5], [5]), [])

    def test_rests(self):
        found = {3: [1, 3], 1: [1], 7: [3, 7]}
        self.assertEqual(rest_of([2, 7], found), [1, 2])
        self.assertEqual(rest_of([3], found), [])
        self.assertEqual(rest_of([1, 7], found), [])
        self.assertEqual(rest_of([1, 3, 4], found), [1, 3, 4])
        self.assertEqual(rest_of([], found), [])

    def test_ranks(self):
        rows = seeded(118)
        self.assertEqual(rank_of([]), 0)
        self.assertEqual(rank_of([[], [4], [4]]), 1)
        for _ in range(200):
            many = rows.randint(1, 7)
            table = [[k for k in range(many) if rows.randint(0, 2) == 0] for _ in range(rows.randint(0, 9))]
            self.assertEqual(rank_of(table), mixed_rank(table))


class Parts(unittest.TestCase):

    def test_joined(self):
        self.assertEqual(joined([0, 1, 0, 3], 2, 3), [3, 1, 3, 3])
        self.assertEqual(joined([0, 1], 0, 0), [0, 1])

    def test_labels(self):
        labels = labels_of(6, [(0, 4), (2, 3), (4, 5)])
        same = [(i, j) for i in range(6) for j in range(i) if labels[i] == labels[j]]
        self.assertEqual(same, [(3, 2), (4, 0), (5, 0), (5, 4)])
        self.assertEqual(part_number(6, [(0, 4), (2, 3), (4, 5)]), 3)
        self.assertEqual(part_number(3, []), 3)
        self.assertEqual(part_number(0, []), 0)
