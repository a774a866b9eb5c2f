"""Promise [32]: spanning trees and the graphs around them."""

from itertools import combinations, product

from meshcore.points import distance2
from meshcore.trees import nested_graphs, spanning_tree
from tests.disks import CheckedDisks, gap, inside, middle_of, some_generic
from tests.helpers import LIMIT, at, frac, plain, seeded

THREE = plain((0, 0), (4, 1), (1, 3))
EQUAL = plain((0, 0), (8, 1), (12, 8), (4, 7), (30, 11))


def joins_all(many, pairs):
    found = {0}
    for _ in range(many):
        for i, j in pairs:
            if i in found or j in found:
                found |= {i, j}
    return len(found) == many


def lengths(points, pairs):
    return sorted(frac(distance2(points[i], points[j])) for i, j in pairs)


def least_lengths(points):
    """The least ascending row of squared lengths of all trees, by going through all of them."""
    many = len(points)
    pairs = list(combinations(range(many), 2))
    return min(lengths(points, rows) for rows in combinations(pairs, many - 1) if joins_all(many, rows))


def graphs_by_words(points):
    spots = [at(p) for p in points]
    many = len(points)
    pairs = list(combinations(range(many), 2))
    near, clear = [], []
    for i, j in pairs:
        rest = [p for k, p in enumerate(spots) if k not in (i, j)]
        whole = gap(spots[i], spots[j])
        if not [p for p in rest if gap(p, spots[i]) < whole and gap(p, spots[j]) < whole]:
            near.append((i, j))
        if not [p for p in rest if gap(p, middle_of(spots[i], spots[j])) < whole / 4]:
            clear.append((i, j))
    triples = [row for row in combinations(range(many), 3) if not inside(spots, row)]
    cells = [row for row in pairs if many == 2 or any(set(row) < set(triple) for triple in triples)]
    return (tuple(near), tuple(clear), tuple(cells))


class Trees(CheckedDisks):

    def is_tree(self, points, found):
        self.assertIs(found.__class__, tuple)
        self.assertEqual(list(found), sorted(set(found)))
        self.assertEqual(len(found), len(points) - 1)
        for i, j in found:
            self.assertTrue(0 <= i < j < len(points))
        self.assertTrue(joins_all(len(points), found))

    def test_ordinary(self):
        self.assertEqual(spanning_tree(THREE), ((0, 2), (1, 2)))
        self.assertEqual(spanning_tree(plain((3, 3))), ())
        self.assertEqual(spanning_tree(plain((3, 3), (0, 8))), ((0, 1),))
        self.assertEqual(spanning_tree(((0, 0, 1), (4, 1, 3), (9, 1, 2))), ((0, 1), (1, 2)))

    def test_least_of_all_trees(self):
        rows = seeded(88)
        for many, size, most in ((2, 5, 2), (3, 6, 1), (4, 6, 2), (5, 9, 1), (6, 12, 1)):
            for _ in range(5):
                points = some_generic(rows, many, size, most)
                found = spanning_tree(points)
                self.is_tree(points, found)
                self.assertEqual(lengths(points, found), least_lengths(points))

    def test_equal_lengths(self):
        for order in ((0, 1, 2, 3, 4), (4, 2, 0, 3, 1), (3, 1, 4, 0, 2)):
            points = tuple(EQUAL[k] for k in order)
            found = spanning_tree(points)
            self.is_tree(points, found)
            self.assertEqual(lengths(points, found), least_lengths(points))

    def test_lies_in_the_graphs(self):
        rows = seeded(89)
        for many, size, most in ((1, 5, 1), (2, 5, 3), (5, 9, 2), (9, 30, 1), (12, 40, 1), (12, LIMIT, 1)):
            points = some_generic(rows, many, size, most)
            found = spanning_tree(points)
            self.is_tree(points, found)
            chain = (found,) + nested_graphs(points)
            for one, other in zip(chain, chain[1:]):
                self.assertLessEqual(set(one), set(other))

    def test_wrong(self):
        self.bad_growing(spanning_tree)


class Graphs(CheckedDisks):

    def test_ordinary(self):
        self.assertEqual(nested_graphs(plain((1, 1))), ((), (), ()))
        self.assertEqual(nested_graphs(plain((1, 1), (5, 4))), (((0, 1),),) * 3)
        self.assertEqual(nested_graphs(THREE), (((0, 2), (1, 2)), ((0, 1), (0, 2), (1, 2)), ((0, 1), (0, 2), (1, 2))))

    def test_as_near_is_not_nearer(self):
        # point 2 is as far from point 0 as point 1 is
        points = plain((0, 0), (5, 0), (3, 4))
        self.assertIn((0, 1), nested_graphs(points)[0])
        self.assertIn((0, 2), nested_graphs(points)[0])

    def test_like_the_words(self):
        rows = seeded(90)
        for many, size, most in product((1, 2, 3, 4, 6, 8, 12), (30, LIMIT), (1, 3)):
            points = some_generic(rows, many, size, most)
            self.assertEqual(nested_graphs(points), graphs_by_words(points))

    def test_wrong(self):
        self.bad_growing(nested_graphs)
