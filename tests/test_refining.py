"""Promises [38] and [39]: conforming and refined meshes."""

from fractions import Fraction
from itertools import combinations

from meshcore.errors import BadBound, BadConstraints, BadNumber, TooMany
from meshcore.refining import conforming, refined
from meshcore.triangulations import flaw_of
from meshcore.turns import turn_table
from tests.constraints import SQUARE, CheckedConstraints, on_between, some_constraints
from tests.disks import circle, gap, middle_of
from tests.helpers import LIMIT, STRANGE, at, cross, deep, frac, of, plain, seeded, some_mesh_points

FLAT = plain((0, 0), (8, 0), (4, 1))
WRONG_NUMBERS = [value for value in STRANGE if value is True or value is False or value not in (0, 1)] + [
    -1, 41, 10 ** 30, (0,), deep(50),
]
WRONG_BOUNDS = STRANGE + ((1, 1), (0, 1), (-2, 1), (3, 2), (199, 100), (4, 2), (2, -1), (-4, -2), (2, True), (True, 1),
                          2, 3, [2, 1], (2, 1, 1), (2,), ((2, 1), 1), deep(50))


def struck(spots, piece, p):
    """Whether p lies strictly inside the circle with a piece as diameter."""
    a, b = spots[piece[0]], spots[piece[1]]
    return gap(middle_of(a, b), p) < gap(a, b) / 4


def least_struck(spots, pieces):
    for piece in sorted(pieces):
        if any(struck(spots, piece, p) for p in spots):
            return piece
    return None


def split(spots, pieces, piece):
    i, j = piece
    spots.append(middle_of(spots[i], spots[j]))
    pieces.remove(piece)
    pieces.extend([(i, len(spots) - 1), (j, len(spots) - 1)])


def conforming_by_words(points, constraints):
    """The list of spots and pieces, and how many are added; by fractions, at most 42 steps."""
    spots, pieces = [at(p) for p in points], list(constraints)
    for count in range(42):
        piece = least_struck(spots, pieces)
        if piece is None:
            return (spots, sorted(pieces), count)
        split(spots, pieces, piece)
    return (spots, sorted(pieces), 42)


def hull_pieces(spots):
    """The segments between neighbouring points on the border of the hull."""
    found = []
    for i, j in combinations(range(len(spots)), 2):
        turns = [cross(spots[i], spots[j], p) for p in spots]
        between = [k for k, p in enumerate(spots) if k not in (i, j) and on_between(p, spots[i], spots[j])]
        if (min(turns) >= 0 or max(turns) <= 0) and not between:
            found.append((i, j))
    return found


def least_bad(spots, bound):
    for row in combinations(range(len(spots)), 3):
        corners = [spots[k] for k in row]
        if cross(*corners) == 0:
            continue
        center, square = circle(*corners)
        least = min(gap(p, q) for p, q in combinations(corners, 2))
        if square > bound * least and all(gap(center, p) >= square for p in spots):
            return center
    return None


def refined_by_words(points, constraints, bound, most):
    """The spots and pieces, None if there are more than most steps."""
    spots = [at(p) for p in points]
    pieces = sorted(set(constraints) | set(hull_pieces(spots)))
    for _ in range(most + 1):
        piece = least_struck(spots, pieces)
        if piece is not None:
            split(spots, pieces, piece)
            continue
        center = least_bad(spots, bound)
        if center is None:
            return (spots, sorted(pieces))
        wrong = [piece for piece in pieces if struck(spots, piece, center)]
        if wrong:
            split(spots, pieces, min(wrong))
        else:
            spots.append(center)
    return None


class Conforming(CheckedConstraints):

    def test_ordinary(self):
        more = FLAT + ((4, 0, 1),)
        self.assertEqual(conforming(FLAT, ((0, 1),), 1), (more, ((0, 3), (1, 3))))
        self.assertEqual(conforming(FLAT, ((0, 1),), 40), (more, ((0, 3), (1, 3))))
        self.assertEqual(conforming(FLAT, (), 0), (FLAT, ()))
        self.assertEqual(conforming(FLAT, ((0, 2), (1, 2)), 0), (FLAT, ((0, 2), (1, 2))))

    def test_on_the_circle_is_not_inside(self):
        right = plain((0, 0), (4, 0), (2, 2))
        self.assertEqual(conforming(right, ((0, 1),), 0), (right, ((0, 1),)))
        self.assertEqual(conforming(SQUARE, ((0, 2),), 0), (SQUARE, ((0, 2),)))
        nearly = ((0, 0, 1), (4, 0, 1), (200, 199, 100))
        self.assertEqual(conforming(nearly, ((0, 1),), 1), (nearly + ((2, 0, 1),), ((0, 3), (1, 3))))

    def test_split_several_times(self):
        points = plain((0, 0), (16, 0), (2, 1), (30, 5))
        pieces = ((0, 6), (1, 4), (4, 5), (5, 6))
        told = (points + plain((8, 0), (4, 0), (2, 0)), pieces)
        self.assertEqual(conforming(points, ((0, 1),), 3), told)
        self.raised(TooMany, conforming, points, ((0, 1),), 2, most=2)
        self.raised(TooMany, conforming, points, ((0, 1),), 0, most=0)

    def test_the_least_piece_first(self):
        points = plain((0, 0), (8, 0), (0, 8), (8, 8), (4, 1), (4, 7))
        found = conforming(points, ((0, 1), (2, 3)), 2)
        self.assertEqual(found, (points + plain((4, 0), (4, 8)), ((0, 6), (1, 6), (2, 7), (3, 7))))

    def test_new_points_count_too(self):
        # the midpoint of the first constraint lies in the circle of the second one
        points = plain((0, 0), (20, 0), (8, 2), (12, 2), (9, 6), (3, 1))
        told = conforming_by_words(points, ((0, 1), (2, 3)))
        self.assertGreater(told[2], 1)
        self.holds(points, ((0, 1), (2, 3)))

    def holds(self, points, constraints):
        spots, pieces, count = conforming_by_words(points, constraints)
        if count > 40:
            self.raised(TooMany, conforming, points, constraints, 40, most=40)
            return
        told = (tuple(of(x, y) for x, y in spots), tuple(pieces))
        self.assertEqual(conforming(points, constraints, 40), told)
        self.assertEqual(conforming(points, constraints, count), told)
        if count > 0:
            self.raised(TooMany, conforming, points, constraints, count - 1, most=count - 1)

    def test_like_the_words(self):
        rows = seeded(121)
        for many, size, most in ((3, 4, 2), (5, 9, 1), (8, 20, 2), (12, 30, 1), (6, LIMIT, LIMIT)):
            for tries in (1, 3, 6):
                points = some_mesh_points(rows, many, size, most)
                self.holds(points, some_constraints(rows, points, tries))

    def test_without_end(self):
        # two constraints with a small angle split one another again and again
        points = plain((7, 4), (-16, 6), (-8, 7))
        self.raised(TooMany, conforming, points, ((0, 1), (0, 2)), 40, most=40)
        self.raised(TooMany, conforming, points, ((0, 1), (0, 2)), 7, most=7)

    def test_the_same_arguments(self):
        constraints = ((0, 1),)
        self.assertEqual(conforming(FLAT, constraints, 5), conforming(FLAT, constraints, 6))
        self.assertEqual((FLAT, constraints), (plain((0, 0), (8, 0), (4, 1)), ((0, 1),)))

    def test_wrong(self):
        self.bad_plan(conforming, 0)
        self.bad_plan(conforming, -1)
        for most in WRONG_NUMBERS:
            with self.subTest(most=most):
                self.raised(BadNumber, conforming, FLAT, ((0, 1),), most)
        self.raised(BadConstraints, conforming, SQUARE, ((0, 2), (1, 3)), None, first=0, second=1)


class Refined(CheckedConstraints):

    def is_mesh(self, points, pieces, triangles):
        """A triangulation without illegal edges that has all pieces as sides."""
        self.assertIsNone(flaw_of(points, turn_table(points), triangles))
        sides = {pair for item in triangles for pair in combinations(item, 2)}
        self.assertLessEqual(set(pieces), sides)
        spots = [at(p) for p in points]
        for item in triangles:
            center, square = circle(*[spots[k] for k in item])
            self.assertTrue(all(gap(center, p) >= square for p in spots))

    def is_good(self, points, pieces, triangles, bound):
        spots = [at(p) for p in points]
        for i, j in pieces:
            self.assertFalse(any(struck(spots, (i, j), p) for p in spots))
        for item in triangles:
            corners = [spots[k] for k in item]
            _, square = circle(*corners)
            self.assertLessEqual(square, bound * min(gap(p, q) for p, q in combinations(corners, 2)))

    def holds(self, points, constraints, bound, most=40):
        told = refined_by_words(points, constraints, frac(bound), most)
        if told is None:
            self.raised(TooMany, refined, points, constraints, bound, most, most=most)
            return None
        spots, pieces = told
        added = len(spots) - len(points)
        found = refined(points, constraints, bound, most)
        self.assertEqual(found[:2], (tuple(of(x, y) for x, y in spots), tuple(pieces)))
        self.is_mesh(*found)
        self.is_good(*found, frac(bound))
        self.assertEqual(refined(points, constraints, bound, added)[:2], found[:2])
        if added > 0:
            self.raised(TooMany, refined, points, constraints, bound, added - 1, most=added - 1)
        return added

    def test_nothing_to_do(self):
        for points in (SQUARE, plain((0, 0), (4, 0), (2, 3)), plain((0, 0), (2, 0), (4, 0), (0, 3), (2, 3), (4, 3))):
            found = refined(points, (), (2, 1), 0)
            self.assertEqual(found[0], points)
            self.is_mesh(*found)
        self.assertEqual(refined(SQUARE, (), (2, 1), 0)[1], ((0, 1), (0, 3), (1, 2), (2, 3)))

    def test_pieces_are_those_of_the_border_too(self):
        points = plain((0, 0), (8, 0), (0, 8), (4, 0), (0, 4), (4, 4))
        found = refined(points, ((3, 5),), (2, 1), 0)
        self.assertEqual(found[1], ((0, 3), (0, 4), (1, 3), (1, 5), (2, 4), (2, 5), (3, 5)))
        self.assertEqual(refined(points, ((0, 3), (4, 5)), (2, 1), 0)[1],
                         ((0, 3), (0, 4), (1, 3), (1, 5), (2, 4), (2, 5), (4, 5)))

    def test_both_diagonals(self):
        # a diagonal of a rectangle is a piece: its circle passes through the other corners
        for edge in ((0, 2), (1, 3)):
            points, pieces, triangles = refined(SQUARE, (edge,), (2, 1), 0)
            self.is_mesh(points, pieces, triangles)
            self.assertIn(edge, pieces)

    def test_many_on_a_circle(self):
        wheel = plain((7, 4), (4, 7), (-4, 7), (-7, 4), (-7, -4), (-4, -7), (4, -7), (7, -4))
        for constraints in ((), ((0, 4),), ((2, 6),), ((1, 5),), ((3, 7),)):
            found = refined(wheel, constraints, (9, 1), 0)
            self.is_mesh(*found)
            self.assertIs(self.holds(wheel, constraints, (9, 1)), 0)
        self.assertIsNotNone(refined(wheel, ((0, 4),), (2, 1), 40))
        self.holds(wheel, (), (2, 1))
        self.holds(wheel, ((0, 4),), (2, 1))

    def test_exactly_at_the_bound(self):
        # the squared radius is 4225 / 256, the least squared distance 4
        points = plain((-1, 0), (1, 0), (0, 8))
        found = refined(points, (), (4225, 1024), 0)
        self.assertEqual(found, (points, ((0, 1), (0, 2), (1, 2)), ((0, 1, 2),)))
        self.assertEqual(refined(points, (), (2113, 512), 0), found)
        for bound in ((4224, 1025), (4, 1)):
            self.raised(TooMany, refined, points, (), bound, 0, most=0)
            self.holds(points, (), bound)

    def test_a_center_becomes_a_point(self):
        points = plain((-3, 0), (4, -3), (0, 4), (-2, -2), (5, 3), (-1, -4), (5, -2))
        found = refined(points, (), (2, 1), 2)
        self.assertEqual(found[0][7:8], ((1, 1, 2),))
        self.assertEqual(self.holds(points, (), (2, 1)), 2)

    def test_a_center_on_a_circle_becomes_a_point(self):
        # the first center lies on the circles of two pieces, inside none
        points = plain((-5, 1), (-5, -1), (1, -4), (4, 4), (-2, 2), (-1, -5), (-2, -5))
        center = (Fraction(-3, 2), Fraction(-3, 2))
        self.assertEqual(least_bad([at(p) for p in points], Fraction(2)), center)
        for i, j in ((1, 6), (2, 3)):
            one, other = at(points[i]), at(points[j])
            self.assertEqual(gap(middle_of(one, other), center), gap(one, other) / 4)
        self.assertEqual(refined(points, (), (2, 1), 9)[0][7], (-3, -3, 2))
        self.assertEqual(self.holds(points, (), (2, 1)), 3)

    def test_a_center_inside_a_circle_splits_the_least_piece(self):
        # the first center, at (-1, 2 / 3), lies inside the circles of the pieces (0, 1) and (0, 3)
        points = plain((-3, 5), (3, -2), (0, -4), (-2, -4), (3, -4))
        constraints = ((0, 1), (1, 4))
        self.assertEqual(least_bad([at(p) for p in points], Fraction(2)), (-1, Fraction(2, 3)))
        found = refined(points, constraints, (2, 1), 9)
        self.assertEqual(found[0][5], (0, 3, 2))
        self.assertEqual(self.holds(points, constraints, (2, 1)), 2)
        points = plain((6, 0), (-4, -7), (-7, 3), (5, 3), (6, -3), (2, -7))
        self.assertEqual(self.holds(points, ((1, 5), (2, 3), (4, 5)), (2, 1)), 3)

    def test_like_the_words(self):
        rows = seeded(123)
        done = 0
        for many, size, most in ((3, 3, 1), (3, 9, 2), (4, 4, 1), (5, 6, 2), (6, 4, 1), (7, 9, 1), (9, 20, 1)):
            for tries in (0, 1, 2):
                for bound in ((2, 1), (7, 2)):
                    points = some_mesh_points(rows, many, size, most)
                    added = self.holds(points, some_constraints(rows, points, tries), bound, rows.choice((3, 7, 12)))
                    done += added is not None
        self.assertGreater(done, 5)

    def test_twenty_points(self):
        rows = seeded(125)
        points = some_mesh_points(rows, 20, 40)
        found = refined(points, (), (8, 1), 40)
        self.is_mesh(*found)
        self.is_good(*found, Fraction(8))

    def test_wrong(self):
        self.bad_plan(refined, (2, 1), 0)
        self.bad_plan(refined, (1, 1), -1)
        for bound in WRONG_BOUNDS:
            for most in (0, -1, None):
                with self.subTest(bound=bound, most=most):
                    self.raised(BadBound, refined, FLAT, ((0, 1),), bound, most)
        for most in WRONG_NUMBERS:
            with self.subTest(most=most):
                self.raised(BadNumber, refined, FLAT, ((0, 1),), (2, 1), most)
        self.raised(TooMany, refined, FLAT, (), (2, 1), 0, most=0)
        self.raised(BadConstraints, refined, SQUARE, ((0, 2), (1, 3)), None, None, first=0, second=1)
