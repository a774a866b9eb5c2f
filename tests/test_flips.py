"""Promises [9] and [10]: flips, all triangulations, paths of flips."""

from itertools import combinations
from unittest import mock

from meshcore import triangulations
from meshcore.errors import BadEdge, NotTriangulation, TooMany
from meshcore.segments import crosses
from meshcore.triangulations import all_triangulations, flip, flip_path, flippable
from meshcore.triangulations import triangulate, triangulation_flaw
from tests.helpers import STRANGE, Checked, deep, plain, seeded, some_mesh_points

KITE = plain((0, 0), (4, 0), (5, 5), (0, 4))
ONE = ((0, 1, 2), (0, 2, 3))
TWO = ((0, 1, 3), (1, 2, 3))
DART = plain((0, 0), (4, 1), (8, 0), (4, 6))
FAN = ((0, 1, 2), (0, 1, 3), (1, 2, 3))
GRID = plain(*[(x, y) for x in range(3) for y in range(3)])


def wheel(many):
    """Points with all of them on the border, no three on a line."""
    return plain(*[(k, k * k) for k in range(many)])


def strip(low, high):
    """Points on two lines."""
    return plain(*[(k, 0) for k in range(low)], *[(k, 1) for k in range(high)])


def flips_by_words(points, triangles):
    """The edges that can be flipped, each with its triangulation after the flip."""
    found = {}
    for i, j in combinations(range(len(points)), 2):
        both = [item for item in triangles if i in item and j in item]
        if len(both) == 2:
            k, m = [(set(item) - {i, j}).pop() for item in both]
            if crosses(points[i], points[j], points[k], points[m]):
                new = [tuple(sorted((i, k, m))), tuple(sorted((j, k, m)))]
                kept = [item for item in triangles if item not in both]
                found[i, j] = tuple(sorted(kept + new))
    return found


class Flips(Checked):

    def test_flippable(self):
        self.assertEqual(flippable(KITE, ONE), ((0, 2),))
        self.assertEqual(flippable(KITE, TWO), ((1, 3),))
        self.assertEqual(flippable(DART, FAN), ())
        # the remaining corners and an end of the edge are on a line
        row = plain((0, 0), (2, 0), (0, 2), (1, 0))
        self.assertEqual(flippable(row, ((0, 2, 3), (1, 2, 3))), ())
        self.assertEqual(flippable(wheel(3), ((0, 1, 2),)), ())

    def test_flip(self):
        self.assertEqual(flip(KITE, ONE, (0, 2)), TWO)
        self.assertEqual(flip(KITE, TWO, (1, 3)), ONE)

    def test_like_the_words(self):
        rows = seeded(14)
        for _ in range(80):
            points = some_mesh_points(rows, rows.randint(3, 8), 2, 2)
            triangles = triangulate(points)
            for _ in range(6):
                told = flips_by_words(points, triangles)
                self.assertEqual(flippable(points, triangles), tuple(sorted(told)))
                for edge in combinations(range(len(points)), 2):
                    if edge not in told:
                        self.raised(BadEdge, flip, points, triangles, edge)
                        continue
                    new = flip(points, triangles, edge)
                    self.assertEqual(new, told[edge])
                    self.assertIsNone(triangulation_flaw(points, new))
                if not told:
                    break
                triangles = told[rows.choice(sorted(told))]

    def test_count_of_flips(self):
        for many in range(4, 12):
            points = wheel(many)
            self.assertGreaterEqual(2 * len(flippable(points, triangulate(points))), many - 4)

    def test_bad_edges(self):
        for value in STRANGE + (
            (2, 0), (0, 1), (1, 3), (0, 0), (2, 2), (0, 2, 3), (0,), [0, 2], (False, 2), (0, True), (0, 4),
            (-4, 2), (0, -2), ((0, 2),), "02", (0, "2"), ((0,), 2), deep(5000), (0, deep(5000)),
        ):
            with self.subTest(value=value):
                self.raised(BadEdge, flip, KITE, ONE, value)
        self.raised(BadEdge, flip, KITE, TWO, (True, 3))
        self.raised(BadEdge, flip, KITE, TWO, (0, 2))
        self.raised(BadEdge, flip, DART, FAN, (1, 3))
        self.raised(NotTriangulation, flip, KITE, ONE[:1], (0, 2))
        self.raised(NotTriangulation, flip, KITE, ONE[:1], None)


class All(Checked):

    def test_all(self):
        self.assertEqual(all_triangulations(KITE), (ONE, TWO))
        self.assertEqual(all_triangulations(DART), (FAN,))
        self.assertEqual(all_triangulations(wheel(3)), (((0, 1, 2),),))

    def test_all_by_trying(self):
        rows = seeded(15)
        for many in (3, 4, 5, 5, 5, 6, 6):
            points = some_mesh_points(rows, many, 2, 1)
            size = len(triangulate(points))
            triples = list(combinations(range(many), 3))
            told = [item for item in combinations(triples, size) if triangulation_flaw(points, item) is None]
            self.assertEqual(all_triangulations(points), tuple(told))

    def test_known_counts(self):
        for many, count in ((4, 2), (5, 5), (6, 14), (7, 42), (8, 132), (10, 1430)):
            self.assertEqual(len(all_triangulations(wheel(many))), count)
        self.assertEqual(len(all_triangulations(GRID)), 64)
        self.assertEqual(len(all_triangulations(strip(4, 4))), 20)
        self.assertEqual(len(all_triangulations(strip(2, 18))), 18)
        found = all_triangulations(strip(6, 9))
        self.assertEqual(len(found), 1287)
        self.assertEqual(list(found), sorted(set(found)))

    def test_too_many(self):
        self.raised(TooMany, all_triangulations, wheel(11), most=2000)
        self.raised(TooMany, all_triangulations, wheel(20), most=2000)
        # 2002 triangulations
        self.raised(TooMany, all_triangulations, strip(6, 10), most=2000)

    def test_just_as_many_as_allowed(self):
        with mock.patch.object(triangulations, "MOST_MESHES", 14):
            self.assertEqual(len(all_triangulations(wheel(6))), 14)
        with mock.patch.object(triangulations, "MOST_MESHES", 13):
            self.raised(TooMany, all_triangulations, wheel(6), most=13)


class Paths(Checked):

    def leads(self, points, one, other):
        path = flip_path(points, one, other)
        self.assertIsInstance(path, tuple)
        self.assertLessEqual(len(path), len(points) * (len(points) - 1))
        for edge in path:
            one = flip(points, one, edge)
        self.assertEqual(one, other)

    def test_path(self):
        self.assertEqual(flip_path(KITE, ONE, TWO), ((0, 2),))
        self.assertEqual(flip_path(KITE, TWO, ONE), ((1, 3),))
        self.leads(KITE, ONE, ONE)
        self.leads(DART, triangulate(DART), triangulate(DART))

    def test_all_pairs(self):
        # the points of the grid have many Delaunay triangulations
        circle = plain((5, 0), (4, 3), (3, 4), (0, 5), (-3, 4), (-5, 0), (0, -5))
        for points in (circle, strip(3, 4), wheel(6)):
            found = all_triangulations(points)
            for one in found:
                for other in found[::5]:
                    self.leads(points, one, other)
        found = all_triangulations(GRID)
        for one in found[::5]:
            for other in found[::7]:
                self.leads(GRID, one, other)

    def test_many_points(self):
        rows = seeded(16)
        for points in (some_mesh_points(rows, 20, 3, 1), some_mesh_points(rows, 20, 50, 9), wheel(20)):
            start = triangulate(points)
            ends = []
            for _ in range(2):
                triangles = start
                for _ in range(60):
                    triangles = flip(points, triangles, rows.choice(flippable(points, triangles)))
                ends.append(triangles)
            self.leads(points, ends[0], ends[1])
            self.leads(points, ends[1], start)
