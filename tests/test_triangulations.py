"""Promise [8]: triangulations, their flaws, the errors of their points."""

from itertools import combinations

from meshcore.errors import BadEdge, BadHeights, BadPoints, Flat, NotTriangulation, TooFew, TooMany
from meshcore.delaunay import angle_row, delaunay, illegal_edges, largest_cap, roughness
from meshcore.triangulations import all_triangulations, flip, flip_path, flippable
from meshcore.triangulations import triangulate, triangulation_flaw
from tests.helpers import BAD_POINTS, LIMIT, STRANGE, Checked, at, cross, deep, in_triangle, plain, seeded
from tests.helpers import shared_area, some_mesh_points

KITE = plain((0, 0), (4, 0), (5, 5), (0, 4))
ONE = ((0, 1, 2), (0, 2, 3))
GRID = plain(*[(x, y) for x in range(3) for y in range(3)])
CALLS = (
    (triangulate, ()), (delaunay, ()), (all_triangulations, ()), (triangulation_flaw, (ONE,)),
    (flippable, (ONE,)), (flip, (ONE, (0, 2))), (flip_path, (ONE, ONE)), (illegal_edges, (ONE,)),
    (angle_row, (ONE,)), (roughness, (ONE, (0, 0, 0, 0))), (largest_cap, (ONE,)),
)


def hull_area(points):
    """Twice the area of the hull: the most that triangles of its points can fill."""
    spots = [at(p) for p in points]
    rest = sorted(spots)
    border = []
    for row in (rest, rest[::-1]):
        half = []
        for p in row:
            while len(half) > 1 and cross(half[-2], half[-1], p) <= 0:
                half.pop()
            half.append(p)
        border += half[:-1]
    return sum(cross(border[0], border[k - 1], border[k]) for k in range(2, len(border)))


def border_count(points):
    """How many points lie on the border of the hull."""
    spots = [at(p) for p in points]
    many = 0
    for p in spots:
        for q in spots:
            turns = [cross(p, q, r) for r in spots]
            if q != p and min(turns) >= 0:
                many += 1
                break
    return many


def flaw_by_words(points, value):
    """The flaw of a tuple of triangles, read off the document."""
    spots = [at(p) for p in points]
    shapes = [[spots[k] for k in item] for item in value]
    for a, shape in enumerate(shapes):
        if cross(*shape) == 0 or (a > 0 and value[a] <= value[a - 1]):
            return ("shape", a)
    for a, shape in enumerate(shapes):
        for k, p in enumerate(spots):
            if k not in value[a] and in_triangle(shape, p):
                return ("point", a, k)
    for a, b in combinations(range(len(value)), 2):
        if shared_area(shapes[a], shapes[b]) > 0:
            return ("overlap", a, b)
    if sum(abs(cross(*shape)) for shape in shapes) < hull_area(points):
        return ("gap",)
    return None


class Triangulations(Checked):

    def test_no_flaw(self):
        self.assertIsNone(triangulation_flaw(KITE, ONE))
        self.assertIsNone(triangulation_flaw(KITE, ((0, 1, 3), (1, 2, 3))))
        self.assertIsNone(triangulation_flaw(plain((0, 0), (1, 0), (0, 1)), ((0, 1, 2),)))
        self.assertIsNone(triangulation_flaw(plain((0, 0), (1, 0), (2, 0), (0, 1)), ((0, 1, 3), (1, 2, 3))))

    def test_shape(self):
        for value in (None, True, 5, "", "abc", [], list(ONE), {}, {(0, 1, 2): 1}):
            self.assertEqual(triangulation_flaw(KITE, value), ("shape", None))
        wrong = (
            (0, 1), (0, 1, 2, 3), [0, 1, 2], (0, 1, 4), (-1, 1, 2), (1, 0, 2), (0, 2, 1), (0, 1, 1), (0, 0, 1),
            (False, 1, 2), (0, True, 2), (0, 1, None), (0, 1, "2"), (0, 1, (2,)), "012", {0: 0, 1: 1, 2: 2},
            (0, 1, 10 ** 30),
        )
        for item in wrong + STRANGE + (deep(5000), (0, 1, deep(5000))):
            self.assertEqual(triangulation_flaw(KITE, (item,)), ("shape", 0))
            self.assertEqual(triangulation_flaw(KITE, ONE + (item, None)), ("shape", 2))
        self.assertEqual(triangulation_flaw(KITE, ONE[::-1]), ("shape", 1))
        self.assertEqual(triangulation_flaw(KITE, ONE[:1] + ONE), ("shape", 1))
        self.assertEqual(triangulation_flaw(KITE, (ONE[0], (0, 1, 3), (0, 1, 3))), ("shape", 2))
        row = plain((0, 0), (1, 0), (2, 0), (0, 1))
        self.assertEqual(triangulation_flaw(row, ((0, 1, 2),)), ("shape", 0))
        self.assertEqual(triangulation_flaw(row, ((0, 1, 3), (0, 1, 2))), ("shape", 1))

    def test_point(self):
        inner = plain((0, 0), (6, 0), (0, 6), (1, 1), (2, 2))
        self.assertEqual(triangulation_flaw(inner, ((0, 1, 2),)), ("point", 0, 3))
        self.assertEqual(triangulation_flaw(inner, ((0, 1, 3), (0, 1, 4), (1, 2, 3))), ("point", 1, 3))
        row = plain((0, 0), (2, 0), (0, 2), (1, 0))
        self.assertEqual(triangulation_flaw(row, ((0, 1, 2),)), ("point", 0, 3))
        self.assertIsNone(triangulation_flaw(row, ((0, 2, 3), (1, 2, 3))))
        # before an overlap
        self.assertEqual(triangulation_flaw(inner, ((0, 1, 3), (0, 3, 4), (1, 2, 3)))[0], "shape")
        self.assertEqual(triangulation_flaw(inner, ((0, 1, 2), (0, 1, 3))), ("point", 0, 3))

    def test_overlap(self):
        self.assertEqual(triangulation_flaw(KITE, ((0, 1, 2), (0, 1, 3))), ("overlap", 0, 1))
        self.assertEqual(triangulation_flaw(KITE, ((0, 1, 2), (0, 2, 3), (1, 2, 3))), ("overlap", 0, 2))
        self.assertEqual(triangulation_flaw(KITE, tuple(combinations(range(4), 3))), ("overlap", 0, 1))
        self.assertEqual(triangulation_flaw(KITE, ((0, 1, 3), (0, 2, 3), (1, 2, 3))), ("overlap", 0, 1))

    def test_gap(self):
        self.assertEqual(triangulation_flaw(KITE, ()), ("gap",))
        self.assertEqual(triangulation_flaw(KITE, ONE[:1]), ("gap",))
        self.assertEqual(triangulation_flaw(KITE, ONE[1:]), ("gap",))

    def test_like_the_words(self):
        rows = seeded(12)
        kinds = set()
        for _ in range(600):
            points = some_mesh_points(rows, rows.randint(3, 6), 2, 2)
            triples = list(combinations(range(len(points)), 3))
            value = tuple(sorted(rows.sample(triples, min(len(triples), rows.randint(0, 4)))))
            if rows.random() < 0.3:
                value = triangulate(points)
                value = value[:len(value) - rows.randint(0, 1)]
            told = flaw_by_words(points, value)
            self.assertEqual(triangulation_flaw(points, value), told)
            if told is not None:
                self.raised(NotTriangulation, flippable, points, value)
            kinds.add(told and told[0])
        self.assertEqual(kinds, {None, "shape", "point", "overlap", "gap"})

    def test_triangulate(self):
        rows = seeded(13)
        for size, most in ((2, 1), (4, 3), (LIMIT, LIMIT)):
            for _ in range(60):
                points = some_mesh_points(rows, rows.randint(3, 9), size, most)
                found = triangulate(points)
                self.assertIsNone(flaw_by_words(points, found))
                self.assertIsNone(triangulation_flaw(points, found))
                self.assertEqual(len(found), 2 * len(points) - 2 - border_count(points))

    def test_triangulate_many(self):
        row = plain(*[(k, 0) for k in range(19)]) + ((3, 7, 1),)
        self.assertEqual(triangulate(row), tuple((k, k + 1, 19) for k in range(18)))
        wheel = plain(*[(k, k * k) for k in range(20)])
        for points in (GRID, wheel, GRID + plain(*[(9 + k, k * k) for k in range(11)])):
            found = triangulate(points)
            self.assertIsNone(triangulation_flaw(points, found))
            self.assertEqual(len(found), 2 * len(points) - 2 - border_count(points))

    def test_errors_of_points(self):
        for call, rest in CALLS:
            self.bad_points(call, (), rest)
            self.raised(TooFew, call, KITE[:2], *rest)
            self.raised(TooFew, call, KITE[:1], *rest)
            many = plain(*[(k, k * k) for k in range(40)])
            self.raised(TooMany, call, many, *rest, most=20)
            self.raised(TooMany, call, many[:21], *rest, most=20)
            # in this order: too many points that are all on a line as well
            self.raised(TooMany, call, plain(*[(k, 0) for k in range(21)]), *rest, most=20)
            self.raised(BadPoints, call, many[:21] + (None,), *rest, index=21)
            self.raised(BadPoints, call, (KITE[0], KITE[0]), *rest, index=1)
            for flat in (plain(*[(k, 0) for k in range(20)]), plain((1, 1), (2, 2), (0, 0))):
                self.raised(Flat, call, flat, *rest)

    def test_leftmost_first(self):
        bad = (None,)
        for call, rest in CALLS:
            nothing = tuple(None for _ in rest)
            self.raised(BadPoints, call, bad, *nothing, index=0)
            self.raised(TooFew, call, KITE[:2], *nothing)
            self.raised(TooMany, call, plain(*[(k, k * k) for k in range(21)]), *nothing, most=20)
            self.raised(Flat, call, plain((0, 0), (1, 1), (3, 3)), *nothing)
            if rest and call is not triangulation_flaw:
                self.raised(NotTriangulation, call, KITE, *nothing)
        self.raised(BadEdge, flip, KITE, ONE, None)
        self.raised(BadHeights, roughness, KITE, ONE, None)
        self.raised(NotTriangulation, flip_path, KITE, ONE, None)
        self.raised(NotTriangulation, flip_path, KITE, None, ONE)

    def test_not_triangulation(self):
        wrong = STRANGE + (ONE[:1], ONE[::-1], list(ONE), ONE + ONE, ((0, 1, 2), (0, 1, 3)), deep(5000))
        for value in wrong + (((0, True, 2), (0, 2, 3)), ([0, 1, 2], (0, 2, 3))):
            for call, rest in CALLS:
                if rest and call is not triangulation_flaw:
                    self.raised(NotTriangulation, call, KITE, value, *rest[1:])
            self.raised(NotTriangulation, flip_path, KITE, ONE, value)

    def test_points_of_wrong_kinds(self):
        for value in BAD_POINTS:
            self.raised(BadPoints, triangulation_flaw, KITE + (value,), None, index=4)
