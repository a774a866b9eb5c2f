"""Promises [40] and [41]: diagonals, cuttings, ears, trees, convex pieces."""

from itertools import combinations

from meshcore.cuttings import (
    are_pieces, cutting, cutting_count, diagonals, ears, fewest_pieces, is_cutting, tree_of,
)
from meshcore.errors import BadPolygon, NotCutting, TooMany
from meshcore.polygons import polygon_flaw
from tests.helpers import BAD_POINTS, LIMIT, STRANGE, Checked, at, cross, deep, plain, seeded, some_point

TRIANGLE = plain((0, 0), (4, 0), (0, 3))
SQUARE = plain((0, 0), (4, 0), (4, 4), (0, 4))
DART = plain((0, 0), (4, 1), (8, 0), (4, 6))
# point 1 and point 3 are both a half turn seen from the diagonals that end there
CROSS = plain((0, 0), (2, 1), (4, 0), (3, 2), (4, 4), (2, 3), (0, 4), (1, 2))
# its only diagonals without contact lead past the notch
NOTCH = plain((0, 0), (6, 0), (6, 4), (3, 1), (0, 4))
COMB = plain((0, 0), (12, 0), (12, 6), (10, 1), (8, 6), (6, 1), (4, 6), (2, 1), (0, 6))


def convex(many):
    """A convex polygon."""
    return plain(*[(k, k * k) for k in range(many)])


def some_polygon(rows, many, size=8, most=1):
    """A polygon that grows from a triangle: points are put between two neighbours as long as that goes."""
    found = ()
    while polygon_flaw(found) is not None:
        found = tuple(some_point(rows, size, 1, most) for _ in range(3))
    tries = 0
    while len(found) < many and tries < 3000:
        k = rows.randint(0, len(found) - 1)
        new = found[:k] + (some_point(rows, size, 1, most),) + found[k:]
        tries += 1
        if polygon_flaw(new) is None:
            found = new
    return found


def on_between(p, a, b):
    return cross(a, b, p) == 0 and min(a, b) <= p <= max(a, b)


def is_diagonal(polygon, i, j):
    """By the words, with fractions: nothing of it outside, nothing of it on an edge but its ends."""
    spots = [at(p) for p in polygon]
    many = len(spots)
    if (j - i) % many in (1, many - 1):
        return False
    a, b = spots[i], spots[j]
    for k in range(many):
        c, d = spots[k], spots[(k + 1) % many]
        if c not in (a, b) and on_between(c, a, b):
            return False
        for p in (a, b):
            if p not in (c, d) and on_between(p, c, d):
                return False
        if cross(a, b, c) * cross(a, b, d) < 0 and cross(c, d, a) * cross(c, d, b) < 0:
            return False
    return is_inside(spots, ((2 * a[0] + b[0]) / 3, (2 * a[1] + b[1]) / 3))


def is_inside(spots, p):
    """Whether a point that is on no edge lies inside: a ray to the right crosses an odd number of edges."""
    count = 0
    for k, b in enumerate(spots):
        a = spots[k - 1]
        if (a[1] > p[1]) != (b[1] > p[1]):
            count += a[0] + (b[0] - a[0]) * (p[1] - a[1]) / (b[1] - a[1]) > p[0]
    return count % 2 == 1


def diagonals_by_words(polygon):
    return [(i, j) for i, j in combinations(range(len(polygon)), 2) if is_diagonal(polygon, i, j)]


def do_cross(polygon, one, other):
    a, b, c, d = [at(polygon[k]) for k in one + other]
    return cross(a, b, c) * cross(a, b, d) < 0 and cross(c, d, a) * cross(c, d, b) < 0


def plane_sets(polygon):
    """All sets of diagonals of which no two cross, ascending, as tuples."""
    found = [()]
    for new in diagonals_by_words(polygon):
        more = [rows + (new,) for rows in found if not any(do_cross(polygon, new, one) for one in rows)]
        found.extend(more)
    return found


def cuttings_by_words(polygon):
    sets = plane_sets(polygon)
    all_diagonals = diagonals_by_words(polygon)
    found = []
    for rows in sets:
        rest = [new for new in all_diagonals if new not in rows]
        if all(any(do_cross(polygon, new, one) for one in rows) for new in rest):
            found.append(rows)
    return found


def faces(many, value):
    """The parts that diagonals leave, as rows of corners."""
    found = [list(range(many))]
    for i, j in value:
        row = next(row for row in found if i in row and j in row)
        found.remove(row)
        a, b = sorted((row.index(i), row.index(j)))
        found.extend([row[a:b + 1], row[b:] + row[:a + 1]])
    return found


def is_convex(polygon, row):
    spots = [at(polygon[k]) for k in row]
    return all(cross(spots[k - 2], spots[k - 1], spots[k]) >= 0 for k in range(len(spots)))


def are_convex_pieces(polygon, value):
    return all(is_convex(polygon, row) for row in faces(len(polygon), value))


class CheckedPolygons(Checked):

    def bad_polygon(self, call, *rest):
        for value in STRANGE + (SQUARE[::-1], list(SQUARE), SQUARE[:2], SQUARE + SQUARE[:1], deep(50), SQUARE * 11):
            with self.subTest(value=value):
                self.raised(BadPolygon, call, value, *rest)
        for value in BAD_POINTS:
            self.raised(BadPolygon, call, SQUARE[:3] + (value,), *rest)
        self.raised(BadPolygon, call, plain((0, 0), (2, 0), (4, 0), (0, 4)), *rest)
        self.raised(BadPolygon, call, plain((0, 0), (4, 4), (4, 0), (0, 4)), *rest)
        self.raised(BadPolygon, call, convex(13)[::-1], *rest)
        self.raised(BadPolygon, call, convex(13) + ((0, 0, 1),), *rest)
        for many in (13, 14, 40):
            self.raised(TooMany, call, convex(many), *rest, most=12)

    def bad_cutting(self, call):
        """A cutting as an argument: every value that is none."""
        self.bad_polygon(call, ())
        self.bad_polygon(call, None)
        for value in STRANGE + (((0, 2), (1, 3)), ((0, 1),), ((1, 2),), ((2, 0),), [(0, 2)], ((0, 2), (0, 2)), deep(50),
                                ((0, 4),), ((0, 3),), ((0, True),), ((False, 2),), ("02",), ((0, 2, 3),), ((0, 2), 5),
                                {(0, 2): 1},
                                ([0, 2],), ((-2, 0),), (((0,), 2),), ((None, 2),), ((10 ** 30, 2),)):
            with self.subTest(value=value):
                self.raised(NotCutting, call, SQUARE, value)
        for value in ((), ((0, 2),), ((0, 3), (0, 2)), ((0, 2), (0, 3), (2, 4)), ((0, 2), (1, 3)), ((0, 2), (2, 3))):
            self.raised(NotCutting, call, convex(5), value)
        self.raised(NotCutting, call, DART, ((0, 2),))
        self.raised(NotCutting, call, TRIANGLE, ((0, 1),))
        self.raised(NotCutting, call, NOTCH, ())


def polygons(seed, rows_of):
    rows = seeded(seed)
    return [some_polygon(rows, many, size, most) for many, size, most, each in rows_of for _ in range(each)]


SMALL = ((3, 3, 1, 1), (4, 3, 2, 4), (5, 3, 1, 6), (6, 4, 1, 8), (7, 4, 1, 6), (8, 5, 2, 3))


class Cuttings(CheckedPolygons):

    def test_diagonals(self):
        self.assertEqual(diagonals(TRIANGLE), ())
        self.assertEqual(diagonals(SQUARE), ((0, 2), (1, 3)))
        self.assertEqual(diagonals(DART), ((1, 3),))
        self.assertEqual(diagonals(NOTCH), ((0, 3), (1, 3)))
        self.assertEqual(diagonals(COMB), ((0, 3), (0, 5), (0, 7), (1, 3), (1, 5), (1, 7), (3, 5), (5, 7)))

    def test_diagonals_that_touch(self):
        # from corner 0 to corner 3 the segment passes through corner 4; from 0 to 2 it touches nothing
        touching = plain((0, 0), (6, -2), (8, 4), (6, 6), (3, 3), (0, 6))
        self.assertIsNone(polygon_flaw(touching))
        self.assertNotIn((0, 3), diagonals(touching))
        self.assertIn((0, 2), diagonals(touching))
        # the segment from 0 to 2 runs along the edge from 0 to 1 or ends in it
        along = plain((0, 0), (4, 0), (5, 2), (8, 0), (5, 7))
        self.assertNotIn((0, 3), diagonals(along))
        for polygon in (touching, along):
            self.assertEqual(list(diagonals(polygon)), diagonals_by_words(polygon))

    def test_diagonals_like_the_words(self):
        for polygon in polygons(131, SMALL + ((12, 5, 1, 8), (12, 9, 3, 5), (12, LIMIT, LIMIT, 2))):
            self.assertEqual(list(diagonals(polygon)), diagonals_by_words(polygon))

    def test_cutting(self):
        self.assertEqual(cutting(TRIANGLE), ())
        self.assertIn(cutting(SQUARE), (((0, 2),), ((1, 3),)))
        self.assertEqual(cutting(DART), ((1, 3),))
        for polygon in polygons(132, SMALL):
            self.assertIn(cutting(polygon), cuttings_by_words(polygon))
            self.assertIs(is_cutting(polygon, cutting(polygon)), True)
        large = polygons(133, ((12, 6, 1, 6), (11, 12, 3, 4), (12, LIMIT, LIMIT, 2)))
        for polygon in large + [convex(12), COMB, CROSS]:
            found = cutting(polygon)
            self.assertEqual(list(found), sorted(set(found)))
            self.assertLessEqual(set(found), set(diagonals_by_words(polygon)))
            self.assertEqual(len(found), len(polygon) - 3)
            self.assertFalse(any(do_cross(polygon, one, other) for one, other in combinations(found, 2)))
            self.assertIs(is_cutting(polygon, found), True)

    def test_is_cutting(self):
        for polygon in polygons(134, SMALL):
            told = cuttings_by_words(polygon)
            for value in plane_sets(polygon):
                self.assertIs(is_cutting(polygon, value), value in told)
            for value in told:
                self.assertEqual(len(value), len(polygon) - 3)

    def test_is_cutting_of_any_value(self):
        self.assertIs(is_cutting(TRIANGLE, ()), True)
        for value in STRANGE + (((0, 2), (1, 3)), ((0, 1),), [(0, 2)], ((2, 0),), ((0, 2), (0, 2)), ("02",),
                                ((False, 2),),
                                ((0, 2), 5), (5, (0, 2)), ((0, 2), None), ((0, 4),), {(0, 2): 1}, ([0, 2],), deep(50)):
            with self.subTest(value=value):
                self.assertIs(is_cutting(SQUARE, value), False)
        self.assertIs(is_cutting(convex(5), ((0, 3), (0, 2))), False)
        self.assertIs(is_cutting(convex(5), ((0, 2), (0, 3))), True)
        self.assertIs(is_cutting(convex(5), ((0, 2), (1, 3))), False)
        self.assertIs(is_cutting(convex(5), ((0, 2),)), False)

    def test_cutting_count(self):
        self.assertEqual([cutting_count(convex(many)) for many in range(3, 13)],
                         [1, 2, 5, 14, 42, 132, 429, 1430, 4862, 16796])
        self.assertEqual((cutting_count(DART), cutting_count(NOTCH)), (1, 1))
        for polygon in polygons(135, SMALL + ((9, 6, 1, 2),)) + [COMB, CROSS]:
            self.assertEqual(cutting_count(polygon), len(cuttings_by_words(polygon)))

    def test_ears(self):
        self.assertEqual(ears(TRIANGLE, ()), (0, 1, 2))
        self.assertEqual(ears(SQUARE, ((0, 2),)), (1, 3))
        self.assertEqual(ears(DART, ((1, 3),)), (0, 2))
        self.assertEqual(ears(convex(6), ((0, 2), (0, 4), (2, 4))), (1, 3, 5))
        for polygon in polygons(136, SMALL):
            for value in cuttings_by_words(polygon)[:6]:
                found = ears(polygon, value)
                self.assertEqual(list(found), [k for k in range(len(polygon)) if not any(k in row for row in value)])
                if len(polygon) > 3:
                    self.assertGreaterEqual(len(found), 2)
                    self.assertFalse(any((j - i) in (1, len(polygon) - 1) for i, j in combinations(found, 2)))

    def test_tree(self):
        self.assertEqual(tree_of(TRIANGLE, ()), ())
        self.assertEqual(tree_of(SQUARE, ((0, 2),)), (((0, 1, 2), (0, 2, 3)),))
        self.assertEqual(tree_of(SQUARE, ((1, 3),)), (((0, 1, 3), (1, 2, 3)),))
        self.assertEqual(tree_of(convex(6), ((0, 2), (0, 4), (2, 4))),
                         (((0, 1, 2), (0, 2, 4)), ((0, 2, 4), (0, 4, 5)), ((0, 2, 4), (2, 3, 4))))
        for polygon in polygons(137, SMALL) + [COMB, CROSS]:
            for value in cuttings_by_words(polygon)[:6]:
                triangles = sorted(tuple(sorted(row)) for row in faces(len(polygon), value))
                told = [(one, other) for one, other in combinations(triangles, 2) if len(set(one) & set(other)) == 2]
                self.assertEqual(list(tree_of(polygon, value)), told)
                self.assertEqual(len(told), len(polygon) - 3)

    def test_wrong(self):
        for call in (diagonals, cutting, cutting_count):
            self.bad_polygon(call)
        for call in (is_cutting,):
            self.bad_polygon(call, ())
            self.bad_polygon(call, None)
        self.bad_cutting(ears)
        self.bad_cutting(tree_of)

    def test_three_corners_and_twelve(self):
        for call in (diagonals, cutting, cutting_count, fewest_pieces):
            call(TRIANGLE)
            call(convex(12))
        self.assertEqual(len(ears(convex(12), cutting(convex(12)))), len(set(ears(convex(12), cutting(convex(12))))))


class Pieces(CheckedPolygons):

    def test_are_pieces(self):
        self.assertIs(are_pieces(TRIANGLE, ()), True)
        self.assertIs(are_pieces(SQUARE, ()), True)
        self.assertIs(are_pieces(SQUARE, ((0, 2),)), True)
        self.assertIs(are_pieces(DART, ()), False)
        self.assertIs(are_pieces(DART, ((1, 3),)), True)
        self.assertIs(are_pieces(NOTCH, ((0, 3),)), False)
        self.assertIs(are_pieces(NOTCH, ((0, 3), (1, 3))), True)
        self.assertIs(are_pieces(NOTCH, ()), False)

    def test_just_a_half_turn(self):
        # the diagonal from 1 goes on in the line of the edge from 0 to 1: the angle there is a half turn
        polygon = plain((0, 0), (2, 2), (4, 0), (6, 4), (4, 4), (0, 6))
        self.assertIsNone(polygon_flaw(polygon))
        self.assertIn((1, 4), diagonals(polygon))
        self.assertIs(are_pieces(polygon, ((1, 4),)), True)
        less = plain((0, 0), (2, 2), (4, 0), (6, 4), (5, 4), (0, 6))
        self.assertIs(are_pieces(less, ((1, 4),)), False)
        self.assertIs(are_pieces(less, ((1, 4), (1, 5))), True)
        back = plain((0, 0), (2, 2), (4, 0), (6, 4), (3, 4), (0, 6))
        self.assertIs(are_pieces(back, ((1, 4),)), True)

    def test_like_faces(self):
        for polygon in polygons(138, SMALL) + [CROSS, NOTCH]:
            for value in plane_sets(polygon):
                self.assertIs(are_pieces(polygon, value), are_convex_pieces(polygon, value))

    def test_any_value(self):
        for value in STRANGE + (((0, 2), (1, 3)), ((0, 1),), [(0, 2)], ((2, 0),), ((0, 2), (0, 2)), ("02",),
                                ((False, 2),),
                                ((0, 2), 5), (5, (0, 2)), ((0, 4),), {(0, 2): 1}, ([0, 2],), deep(50), ((None, 2),)):
            if value != ():
                with self.subTest(value=value):
                    self.assertIs(are_pieces(SQUARE, value), False)
        self.assertIs(are_pieces(convex(5), ((0, 3), (0, 2))), False)
        self.assertIs(are_pieces(convex(5), ((0, 2), (1, 3))), False)
        self.assertIs(are_pieces(DART, ((0, 2), (1, 3))), False)
        self.assertIs(are_pieces(DART, ((1, 3), (1, 3))), False)

    def test_fewest(self):
        self.assertEqual(fewest_pieces(TRIANGLE), ())
        self.assertEqual(fewest_pieces(convex(12)), ())
        self.assertEqual(fewest_pieces(DART), ((1, 3),))
        self.assertEqual(len(fewest_pieces(CROSS)), 2)
        self.assertEqual(fewest_pieces(NOTCH), ((0, 3), (1, 3)))
        for polygon in polygons(139, SMALL + ((9, 6, 1, 4), (10, 6, 2, 2))) + [CROSS, NOTCH, COMB]:
            found = fewest_pieces(polygon)
            sets = plane_sets(polygon)
            self.assertIn(found, sets)
            self.assertTrue(are_convex_pieces(polygon, found))
            self.assertIs(are_pieces(polygon, found), True)
            least = min(len(value) for value in sets if are_convex_pieces(polygon, value))
            self.assertEqual(len(found), least)

    def test_fewest_of_twelve(self):
        for polygon in polygons(140, ((12, 6, 1, 6), (12, 12, 2, 4), (12, LIMIT, LIMIT, 2))):
            found = fewest_pieces(polygon)
            self.assertIs(are_pieces(polygon, found), True)
            spots = [at(p) for p in polygon]
            wide = [k for k, p in enumerate(spots) if cross(spots[k - 1], p, spots[(k + 1) % len(spots)]) < 0]
            self.assertLessEqual(len(found), 2 * len(wide))
            self.assertGreaterEqual(2 * len(found), len(wide))
            for k in range(len(found)):
                self.assertIs(are_pieces(polygon, found[:k] + found[k + 1:]), False)

    def test_wrong(self):
        self.bad_polygon(fewest_pieces)
        self.bad_polygon(are_pieces, ())
        self.bad_polygon(are_pieces, None)
