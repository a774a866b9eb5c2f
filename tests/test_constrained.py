"""Promises [37] and [38], seen_in_circles: triangulations that respect constraints, and what triangles see."""

from itertools import combinations

from meshcore.circles import circle_side
from meshcore.constrained import constrained, respects, seen_in_circles
from meshcore.delaunay import angle_row, delaunay, illegal_edges
from meshcore.errors import BadConstraints, BadEdges, Flat, NotTriangulation
from meshcore.triangulations import all_triangulations, triangulate, triangulation_flaw
from tests.constraints import SQUARE, CheckedConstraints, constraint_flaw, sees, some_constraints
from tests.helpers import LIMIT, STRANGE, at, cross, deep, frac, on_curve, plain, seeded, some_mesh_points

KITE = plain((0, 0), (4, 0), (5, 5), (0, 4))
ONE = ((0, 1, 2), (0, 2, 3))
TWO = ((0, 1, 3), (1, 2, 3))
GRID = plain(*[(x, y) for x in range(4) for y in range(4)])
WRONG_MESHES = STRANGE + (
    ONE[:1], ONE + TWO, ONE[::-1], list(ONE), ONE + ((0, 1, 3),), ((0, 1, 4), (0, 2, 3)), deep(50),
)


def sides_of(triangles):
    return {pair for item in triangles for pair in combinations(item, 2)}


def respects_by_words(points, constraints, triangles):
    if not set(constraints) <= sides_of(triangles):
        return False
    for i, j in sides_of(triangles) - set(constraints):
        both = [item for item in triangles if i in item and j in item]
        if len(both) == 2:
            rest = (set(both[1]) - {i, j}).pop()
            if circle_side(*[points[k] for k in both[0]], points[rest]) == 1:
                return False
    return True


def seen_by_words(points, constraints, triangles):
    found = []
    for t, triangle in enumerate(triangles):
        for k in range(len(points)):
            if circle_side(*[points[index] for index in triangle], points[k]) == 1:
                if sees(points, constraints, triangle, k):
                    found.append((t, k))
    return tuple(found)


class Constrained(CheckedConstraints):

    def constrained_holds(self, points, constraints):
        found = constrained(points, constraints)
        self.assertIsNone(triangulation_flaw(points, found))
        self.assertTrue(respects_by_words(points, constraints, found))
        self.assertIs(respects(points, constraints, found), True)
        self.assertEqual(seen_in_circles(points, constraints, found), ())

    def test_ordinary(self):
        self.assertEqual(constrained(KITE, ()), TWO)
        self.assertEqual(constrained(KITE, ((0, 2),)), ONE)
        self.assertEqual(constrained(KITE, ((1, 3),)), TWO)
        self.assertEqual(constrained(KITE, ((0, 1), (0, 2), (0, 3), (1, 2), (2, 3))), ONE)

    def test_some_constraints(self):
        rows = seeded(111)
        for many, size, most in ((3, 3, 2), (4, 3, 1), (6, 4, 2), (8, 4, 1), (12, 5, 2), (20, 8, 1),
                                 (20, LIMIT, LIMIT)):
            for tries in (0, 1, 4, 30):
                points = some_mesh_points(rows, many, size, most)
                self.constrained_holds(points, some_constraints(rows, points, tries))

    def test_no_constraints(self):
        rows = seeded(112)
        for points in (GRID, SQUARE, on_curve(9), some_mesh_points(rows, 15)):
            found = constrained(points, ())
            self.assertEqual(illegal_edges(points, found), ())
            self.assertIs(respects(points, (), delaunay(points)), True)

    def test_sides_of_the_hull(self):
        for constraints in (((0, 1),), ((0, 1), (0, 3), (1, 2), (2, 3)), ((2, 3),)):
            self.constrained_holds(SQUARE, constraints)
            self.constrained_holds(KITE, constraints)
            self.assertIn(constrained(KITE, constraints), (TWO,))

    def test_many_points_on_lines_and_circles(self):
        rows = seeded(113)
        for tries in (1, 5, 20, 60):
            self.constrained_holds(GRID, some_constraints(rows, GRID, tries))
            self.constrained_holds(on_curve(14), some_constraints(rows, on_curve(14), tries))

    def test_all_sides_of_a_triangulation(self):
        rows = seeded(114)
        for many in (5, 9):
            points = some_mesh_points(rows, many)
            triangles = triangulate(points)
            edges = tuple(sorted(sides_of(triangles)))
            self.assertEqual(constrained(points, edges), triangles)

    def test_greatest_row_of_angles(self):
        rows = seeded(115)
        for _ in range(10):
            points = some_mesh_points(rows, 6, 4, 2)
            edges = some_constraints(rows, points, 2)
            having = [one for one in all_triangulations(points) if set(edges) <= sides_of(one)]
            angles = {one: [frac(value) for value in angle_row(points, one)] for one in having}
            for one in having:
                if angles[one] == min(angles.values()):
                    self.assertIs(respects(points, edges, one), True)

    def test_wrong(self):
        self.bad_plan(constrained)


class Respects(CheckedConstraints):

    def test_ordinary(self):
        self.assertIs(respects(KITE, (), ONE), False)
        self.assertIs(respects(KITE, (), TWO), True)
        self.assertIs(respects(KITE, ((0, 2),), ONE), True)
        self.assertIs(respects(KITE, ((0, 2),), TWO), False)
        self.assertIs(respects(KITE, ((1, 3),), TWO), True)
        self.assertIs(respects(KITE, ((0, 1),), ONE), False)
        # four points on a circle: neither diagonal is illegal
        self.assertIs(respects(SQUARE, (), ONE), True)
        self.assertIs(respects(SQUARE, (), TWO), True)
        self.assertIs(respects(SQUARE, ((0, 2),), TWO), False)

    def test_all_triangulations(self):
        rows = seeded(116)
        for tries in (0, 0, 1, 1, 2, 3, 5, 8):
            points = some_mesh_points(rows, 6, 3, 2)
            edges = some_constraints(rows, points, tries)
            for triangles in all_triangulations(points):
                told = respects_by_words(points, edges, triangles)
                self.assertIs(respects(points, edges, triangles), told)

    def test_wrong(self):
        self.bad_plan(respects, ONE)
        self.bad_plan(respects, None)
        for value in WRONG_MESHES:
            with self.subTest(value=value):
                self.raised(NotTriangulation, respects, KITE, (), value)
                self.raised(NotTriangulation, respects, KITE, ((0, 2),), value)
        self.raised(BadEdges, respects, KITE, ((0, 1), (0, 2), (0, 9)), ONE[:1], index=2)
        self.raised(BadConstraints, respects, KITE, ((0, 2), (1, 3)), ONE[:1], first=0, second=1)
        self.raised(Flat, respects, plain((0, 0), (1, 0), (2, 0)), 5, 5)
        self.raised(BadEdges, respects, KITE, ((0, 2), (1, 3), (1, 2)), ONE, index=2)


class Seen(CheckedConstraints):

    def test_ordinary(self):
        self.assertEqual(seen_in_circles(KITE, (), ONE), ((0, 3), (1, 1)))
        self.assertEqual(seen_in_circles(KITE, (), TWO), ())
        self.assertEqual(seen_in_circles(KITE, ((0, 2),), ONE), ())
        self.assertEqual(seen_in_circles(SQUARE, (), ONE), ())

    def test_hidden_behind_a_constraint(self):
        # points 3 and 4 lie in the circle of the triangle of points 0, 1 and 2, beyond its side from 0 to 1
        points = plain((0, 0), (8, 0), (4, 7), (3, -1), (5, -1), (4, -9))
        edges = ((0, 3), (1, 4), (3, 4))
        triangles = next(one for one in all_triangulations(points) if set(edges) <= sides_of(one) and (0, 1, 2) in one)
        t = triangles.index((0, 1, 2))
        self.assertEqual([k for one, k in seen_in_circles(points, (), triangles) if one == t], [3, 4])
        self.assertEqual([k for one, k in seen_in_circles(points, edges, triangles) if one == t], [3, 4])
        wall = ((0, 1),)
        self.assertEqual([k for one, k in seen_in_circles(points, wall, triangles) if one == t], [])

    def test_half_hidden(self):
        # the constraint from 3 to 4 hides point 5 from a part of the triangle of points 0, 1 and 2 only
        points = plain((0, 0), (8, 0), (4, 7), (0, -1), (4, -1), (4, -2))
        for edges, told in (((), [4, 5]), (((3, 4),), [4, 5]), (((0, 4), (3, 4)), [4, 5]), (((0, 4), (1, 4)), [4])):
            for triangles in all_triangulations(points):
                if set(edges) <= sides_of(triangles) and (0, 1, 2) in triangles:
                    t = triangles.index((0, 1, 2))
                    found = [k for one, k in seen_in_circles(points, edges, triangles) if one == t]
                    self.assertEqual([k for k in found if k != 3], told)

    def test_an_end_of_a_constraint(self):
        points = plain((0, 0), (4, 0), (5, 5), (0, 4), (9, -1))
        triangles = ((0, 1, 2), (0, 1, 4), (0, 2, 3), (1, 2, 4))
        self.assertIsNone(triangulation_flaw(points, triangles))
        for edges in ((), ((0, 3),), ((2, 3),), ((0, 3), (2, 3))):
            self.assertIn((0, 3), seen_in_circles(points, edges, triangles))
        self.assertNotIn((0, 3), seen_in_circles(points, ((0, 2),), triangles))

    def test_like_the_words(self):
        rows = seeded(117)
        for many, size, most in ((5, 3, 1), (6, 4, 2), (8, 3, 1), (10, 6, 1)):
            for tries in (0, 2, 4, 8):
                for _ in range(6):
                    points = some_mesh_points(rows, many, size, most)
                    edges = some_constraints(rows, points, tries)
                    triangles = self.some_mesh(rows, points, edges)
                    found = seen_in_circles(points, edges, triangles)
                    self.assertEqual(found, seen_by_words(points, edges, triangles))
                    self.assertEqual(found == (), respects(points, edges, triangles))

    def some_mesh(self, rows, points, edges):
        """A triangulation that has the edges as sides, and often illegal edges, too."""
        rest = edges
        pairs = list(combinations(range(len(points)), 2))
        for _ in range(8):
            new = tuple(sorted(set(rest) | {rows.choice(pairs)}))
            if constraint_flaw(points, new) is None:
                rest = new
        return constrained(points, rest)

    def test_slivers_and_windows(self):
        # two constraints with a gap between them: through it the triangle sees point 6
        points = plain((0, 0), (10, 0), (5, 9), (0, -1), (4, -1), (6, -1), (5, -2), (10, -1))
        edges = ((3, 4), (5, 7))
        self.assertIsNone(constraint_flaw(points, edges))
        for triangles in all_triangulations(points):
            if set(edges) <= sides_of(triangles) and (0, 1, 2) in triangles:
                found = seen_in_circles(points, edges, triangles)
                self.assertEqual(found, seen_by_words(points, edges, triangles))
                self.assertIn((triangles.index((0, 1, 2)), 6), found)

    def test_a_point_on_the_line_of_a_constraint(self):
        # point 3 lies on the line through points 4 and 5, the constraint between them hides nothing of it
        points = plain((0, 0), (10, 0), (5, 9), (5, -2), (4, -1), (3, 0), (9, -1))
        self.assertEqual(cross(*[at(points[k]) for k in (3, 4, 5)]), 0)
        edges = ((4, 5),)
        for triangles in all_triangulations(points):
            if set(edges) <= sides_of(triangles):
                self.assertEqual(seen_in_circles(points, edges, triangles), seen_by_words(points, edges, triangles))

    def test_wrong(self):
        self.bad_plan(seen_in_circles, ONE)
        self.bad_plan(seen_in_circles, None)
        for value in WRONG_MESHES:
            with self.subTest(value=value):
                self.raised(NotTriangulation, seen_in_circles, KITE, (), value)
        self.raised(NotTriangulation, seen_in_circles, KITE, ((0, 2),), TWO)
        self.raised(NotTriangulation, seen_in_circles, KITE, ((0, 1), (1, 3)), ONE)
        self.raised(BadConstraints, seen_in_circles, KITE, ((0, 2), (1, 3)), ONE[:1], first=0, second=1)
