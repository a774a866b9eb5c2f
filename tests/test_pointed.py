"""Promise [19]: edge sets, their crossings, pointed points."""

from itertools import combinations

from meshcore.errors import BadEdges, NotGeneral, TooFew
from meshcore.pointed import crossing_edges, is_pointed, unpointed
from meshcore.segments import crosses
from tests.helpers import GRID, LIMIT, Checked, on_curve, pairs_of, plain, seeded, some_general

CALLS = (crossing_edges, unpointed, is_pointed)
INNER = plain((0, 0), (6, 0), (1, 5), (2, 2))


def crossing_by_words(points, edges):
    for a, b in combinations(range(len(edges)), 2):
        (i, j), (k, m) = edges[a], edges[b]
        if crosses(points[i], points[j], points[k], points[m]):
            return (a, b)
    return None


def is_pointed_by_words(points, edges, at):
    """For points with small integer coordinates: along all directions of a grid."""
    ends = [points[i + j - at] for i, j in edges if at in (i, j)]
    ways = [(p[0] - points[at][0], p[1] - points[at][1]) for p in ends]
    return any(all(u * x + v * y > 0 for x, y in ways) for u, v in GRID)


def unpointed_by_words(points, edges):
    return tuple(at for at in range(len(points)) if not is_pointed_by_words(points, edges, at))


class Pointed(Checked):

    def test_empty_sets(self):
        for points in (on_curve(2), INNER, on_curve(12)):
            self.assertIsNone(crossing_edges(points, ()))
            self.assertEqual(unpointed(points, ()), ())
            self.assertIs(is_pointed(points, ()), True)

    def test_one_and_two_edges(self):
        self.assertIs(is_pointed(on_curve(2), ((0, 1),)), True)
        for two in combinations(pairs_of(4), 2):
            self.assertEqual(unpointed(INNER, two), ())

    def test_three_edges(self):
        self.assertEqual(unpointed(INNER, ((0, 3), (1, 3), (2, 3))), (3,))
        self.assertEqual(unpointed(INNER, ((0, 1), (0, 2), (0, 3))), ())
        self.assertIs(is_pointed(INNER, ((0, 3), (1, 3), (2, 3))), False)
        self.assertIs(is_pointed(INNER, ((0, 1), (0, 2), (0, 3))), True)

    def test_crossing_edges(self):
        square = plain((0, 0), (4, 0), (4, 4), (0, 4))
        square = square[:3] + ((0, 5, 1),)
        self.assertEqual(crossing_edges(square, ((0, 1), (0, 2), (1, 3))), (1, 2))
        self.assertIsNone(crossing_edges(square, ((0, 1), (0, 2), (0, 3), (1, 2), (2, 3))))
        self.assertIs(is_pointed(square, ((0, 2), (1, 3))), False)
        self.assertEqual(unpointed(square, ((0, 2), (1, 3))), ())
        curve = on_curve(6)
        self.assertEqual(crossing_edges(curve, ((0, 1), (0, 4), (1, 3), (2, 5), (3, 5))), (1, 3))
        self.assertEqual(crossing_edges(curve, tuple(pairs_of(6))), (1, 6))

    def test_by_words(self):
        rows = seeded(73)
        kinds = {}
        for many in (2, 3, 4, 5, 6, 7):
            for _ in range(12):
                points = some_general(rows, many, 4)
                pairs = pairs_of(many)
                edges = tuple(sorted(rows.sample(pairs, rows.randint(0, min(len(pairs), 9)))))
                cross, bad = crossing_by_words(points, edges), unpointed_by_words(points, edges)
                self.assertEqual(crossing_edges(points, edges), cross)
                self.assertEqual(unpointed(points, edges), bad)
                kind = (cross is None, bad == ())
                self.assertIs(is_pointed(points, edges), kind == (True, True))
                kinds[kind] = kinds.get(kind, 0) + 1
        self.assertEqual(len(kinds), 4)

    def test_all_edges_of_twelve(self):
        curve = on_curve(12)
        edges = tuple(pairs_of(12))
        self.assertEqual(unpointed(curve, edges), ())
        self.assertEqual(crossing_edges(curve, edges), (1, 12))

    def test_large_coordinates(self):
        points = ((-LIMIT, -LIMIT, 1), (LIMIT, -LIMIT, 1), (0, LIMIT, 1), (1, 1, LIMIT))
        self.assertEqual(unpointed(points, ((0, 3), (1, 3), (2, 3))), (3,))

    def test_wrong_points(self):
        for call in CALLS:
            self.bad_few(call, ())
            self.bad_few(call, None)

    def test_wrong_edges(self):
        for call in CALLS:
            self.bad_edges(call)

    def test_leftmost(self):
        for call in CALLS:
            self.raised(TooFew, call, on_curve(1), ((0, 1),))
            self.raised(NotGeneral, call, plain((0, 0), (1, 1), (2, 2)), ((0, 7),))
            self.raised(BadEdges, call, on_curve(3), ((0, 7),), index=0)
