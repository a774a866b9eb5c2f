"""Promises [11] and [12]: illegal edges, Delaunay triangulations, measures."""

from fractions import Fraction
from itertools import combinations

from meshcore.circles import circle_side
from meshcore.delaunay import angle_row, delaunay, illegal_edges, largest_cap, roughness
from meshcore.errors import BadHeights, NotTriangulation
from meshcore.triangulations import all_triangulations, flip, flippable, triangulate, triangulation_flaw
from tests.helpers import LIMIT, STRANGE, Checked, at, cross, deep, frac, plain, rat, seeded, some_mesh_points

KITE = plain((0, 0), (4, 0), (5, 5), (0, 4))
ONE = ((0, 1, 2), (0, 2, 3))
TWO = ((0, 1, 3), (1, 2, 3))
GRID = plain(*[(x, y) for x in range(3) for y in range(3)])


def illegal_by_words(points, triangles):
    found = []
    for i, j in combinations(range(len(points)), 2):
        both = [item for item in triangles if i in item and j in item]
        if len(both) == 2:
            rest = (set(both[1]) - {i, j}).pop()
            if circle_side(*[points[k] for k in both[0]], points[rest]) == 1:
                found.append((i, j))
    return tuple(found)


def cotangents(points, triangle):
    """For each corner: the cotangent there, with fractions, by the sides' squares."""
    found = []
    for k in range(3):
        here, one, two = (at(points[triangle[(k + step) % 3]]) for step in range(3))
        a, b, c = ((u[0] - v[0]) ** 2 + (u[1] - v[1]) ** 2 for u, v in ((one, two), (here, one), (here, two)))
        found.append((b + c - a) / (2 * abs(cross(here, one, two))))
    return found


def roughness_by_slopes(points, triangles, heights):
    """The integral of the squared slope, from the plane over each triangle."""
    total = Fraction(0)
    for item in triangles:
        (ax, ay), (bx, by), (cx, cy) = (at(points[k]) for k in item)
        a, b, c = (heights[k] for k in item)
        double = (bx - ax) * (cy - ay) - (by - ay) * (cx - ax)
        u = ((b - a) * (cy - ay) - (c - a) * (by - ay)) / double
        v = ((c - a) * (bx - ax) - (b - a) * (cx - ax)) / double
        total += (u * u + v * v) * abs(double) / 2
    return total


def cap_by_trying(points, item):
    """The least squared radius of a circle over two corners or through all three."""
    spots = [at(points[k]) for k in item]
    found = []
    for p, q in combinations(spots, 2):
        x, y = (p[0] + q[0]) / 2, (p[1] + q[1]) / 2
        square = (p[0] - x) ** 2 + (p[1] - y) ** 2
        if all((u - x) ** 2 + (v - y) ** 2 <= square for u, v in spots):
            found.append(square)
    if found:
        return min(found)
    a, b, c = ((p[0] - q[0]) ** 2 + (p[1] - q[1]) ** 2 for p, q in combinations(spots, 2))
    return a * b * c / (4 * cross(*spots) ** 2)


class Delaunay(Checked):

    def test_illegal_edges(self):
        self.assertEqual(illegal_edges(KITE, ONE), ((0, 2),))
        self.assertEqual(illegal_edges(KITE, TWO), ())
        square = plain((0, 0), (1, 0), (1, 1), (0, 1))
        self.assertEqual(illegal_edges(square, ONE), ())
        self.assertEqual(illegal_edges(square, TWO), ())

    def test_illegal_like_the_words(self):
        rows = seeded(17)
        for _ in range(100):
            points = some_mesh_points(rows, rows.randint(3, 7), 3, 2)
            for triangles in (triangulate(points), delaunay(points)):
                for edge in flippable(points, triangles)[:2]:
                    new = flip(points, triangles, edge)
                    self.assertEqual(illegal_edges(points, new), illegal_by_words(points, new))
                    self.assertLessEqual(set(illegal_edges(points, new)), set(flippable(points, new)))

    def is_delaunay(self, points, triangles):
        self.assertIsNone(triangulation_flaw(points, triangles))
        self.assertEqual(illegal_edges(points, triangles), ())
        for item in triangles:
            sides = [circle_side(*[points[k] for k in item], p) for p in points]
            self.assertLessEqual(max(sides), 0)

    def test_delaunay(self):
        self.assertEqual(delaunay(KITE), TWO)
        rows = seeded(18)
        for many, size, most in ((3, 3, 1), (5, 2, 1), (8, 3, 2), (12, 4, 1), (20, 3, 1), (20, LIMIT, LIMIT)):
            for _ in range(6):
                points = some_mesh_points(rows, many, size, most)
                self.is_delaunay(points, delaunay(points))
        circle = plain((5, 0), (4, 3), (3, 4), (0, 5), (-3, 4), (-4, 3), (-5, 0), (0, -5), (0, 0))
        wheel = plain(*[(k, k * k) for k in range(20)])
        for points in (GRID, circle, circle[:-1], wheel):
            self.is_delaunay(points, delaunay(points))

    def test_any_order_of_flips(self):
        rows = seeded(19)
        for points in (some_mesh_points(rows, 12, 4, 1), plain(*[(k, k * k) for k in range(10)])):
            triangles = triangulate(points)
            for count in range(len(points) * (len(points) - 1) // 2 + 1):
                edges = illegal_edges(points, triangles)
                if not edges:
                    break
                triangles = flip(points, triangles, rows.choice(edges))
            self.assertEqual(illegal_edges(points, triangles), ())


class Measures(Checked):

    def test_angle_row(self):
        right = plain((0, 0), (2, 0), (0, 1))
        self.assertEqual(angle_row(right, ((0, 1, 2),)), ((2, 1), (1, 2), (0, 1)))
        wide = plain((0, 0), (4, 0), (1, 1))
        self.assertEqual(angle_row(wide, ((0, 1, 2),)), ((3, 1), (1, 1), (-1, 2)))
        thirds = ((0, 0, 1), (1, 0, 3), (1, 1, 3))
        self.assertEqual(angle_row(thirds, ((0, 1, 2),)), ((1, 1), (1, 1), (0, 1)))

    def test_angle_row_like_fractions(self):
        rows = seeded(20)
        for many, size, most in ((3, 3, 3), (6, 3, 2), (9, 9, 9), (20, LIMIT, LIMIT)):
            points = some_mesh_points(rows, many, size, most)
            triangles = triangulate(points)
            told = [one for item in triangles for one in cotangents(points, item)]
            found = angle_row(points, triangles)
            self.assertEqual(found, tuple(rat(one) for one in sorted(told, reverse=True)))
            self.assertEqual(len(found), 3 * len(triangles))

    def test_greatest_row_of_angles(self):
        rows = seeded(21)
        for _ in range(12):
            points = some_mesh_points(rows, 6, 4, 2)
            all_rows = {}
            for triangles in all_triangulations(points):
                row = [frac(one) for one in angle_row(points, triangles)]
                all_rows[triangles] = row
            least = min(all_rows.values())
            for triangles, row in all_rows.items():
                if row == least:
                    self.assertEqual(illegal_edges(points, triangles), ())

    def test_roughness(self):
        right = plain((0, 0), (1, 0), (0, 1))
        self.assertEqual(roughness(right, ((0, 1, 2),), (0, 1, 0)), (1, 2))
        self.assertEqual(roughness(right, ((0, 1, 2),), (5, 5, 5)), (0, 1))
        self.assertEqual(roughness(right, ((0, 1, 2),), (0, 10 ** 20, 0)), (10 ** 40 // 2, 1))
        rows = seeded(22)
        for _ in range(40):
            points = some_mesh_points(rows, rows.randint(3, 7), 4, 3)
            heights = tuple(rows.randint(-9, 9) for _ in points)
            triangles = triangulate(points)
            told = roughness_by_slopes(points, triangles, heights)
            self.assertEqual(roughness(points, triangles, heights), rat(told))
            best = frac(roughness(points, delaunay(points), heights))
            self.assertLessEqual(best, told)

    def test_largest_cap(self):
        self.assertEqual(largest_cap(KITE, ONE), (25, 2))
        self.assertEqual(largest_cap(plain((0, 0), (2, 0), (0, 1)), ((0, 1, 2),)), (5, 4))
        self.assertEqual(largest_cap(((0, 0, 1), (1, 0, 2), (0, 1, 2)), ((0, 1, 2),)), (1, 8))
        self.assertEqual(largest_cap(plain((0, 0), (4, 0), (1, 1)), ((0, 1, 2),)), (4, 1))
        self.assertEqual(largest_cap(plain((0, 0), (2, 0), (1, 2)), ((0, 1, 2),)), (25, 16))
        rows = seeded(23)
        for _ in range(40):
            points = some_mesh_points(rows, rows.randint(3, 7), 4, 3)
            triangles = triangulate(points)
            told = max(cap_by_trying(points, item) for item in triangles)
            self.assertEqual(largest_cap(points, triangles), rat(told))
            self.assertLessEqual(frac(largest_cap(points, delaunay(points))), told)

    def test_bad_heights(self):
        good = (0, 1, 2, 3)
        self.assertEqual(roughness(KITE, ONE, good)[1] > 0, True)
        wrong = (good[:3], good + (0,), list(good), (), "0123", (0, 1, 2, True), (False, 1, 2, 3), (0, 1, 2, None),
                 (0, 1, 2, (3, 1)), (0, 1, 2, "3"), (0, 1, 2, deep(5000)), deep(5000), {0: 0, 1: 1, 2: 2, 3: 3})
        for value in wrong + STRANGE:
            if value == (1, 2, 3, 4):
                continue
            with self.subTest():
                self.raised(BadHeights, roughness, KITE, ONE, value)
        self.raised(NotTriangulation, roughness, KITE, ONE[:1], None)
