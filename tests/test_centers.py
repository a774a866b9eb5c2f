"""Promises [17] and [18]: common parts of lists, depths, centers."""

from fractions import Fraction
from math import lcm

from meshcore.centers import center, depth, radon, shows_common, tverberg
from meshcore.errors import BadPoint, BadPoints, TooFew, TooMany
from tests.helpers import BAD_POINTS, GRID, LIMIT, STRANGE, Checked, at, cross, deep, of, on_curve, plain, seeded
from tests.helpers import some_point, some_points

SQUARE = plain((0, 0), (2, 0), (2, 2), (0, 2))
HALVES = ((0, 2), (1, 3))
ROW = plain(*[(k, 2 * k) for k in range(12)])
BIG = 10 ** 40


def is_in(points, p):
    """Whether p is in the hull: no line through p and one of the points has all others beyond."""
    spots = [at(q) for q in points]
    p = at(p)
    if p in spots:
        return True
    for q in spots:
        turns = [cross(p, q, other) for other in spots]
        if min(turns) > 0 or max(turns) < 0:
            return False
        if min(turns) >= 0 or max(turns) <= 0:
            ahead = [one for one, turn in zip(spots, turns) if turn == 0]
            if all((one[0] - p[0]) * (q[0] - p[0]) + (one[1] - p[1]) * (q[1] - p[1]) > 0 for one in ahead):
                return False
    return True


def least_beyond(points, p, directions):
    """The least number of points in a closed half-plane with its border through p."""
    x, y = at(p)
    ways = [(at(q)[0] - x, at(q)[1] - y) for q in points]
    common = lcm(*[number.denominator for one in ways for number in one])
    ways = [(int(x * common), int(y * common)) for x, y in ways]
    return min(sum(u * x + v * y >= 0 for x, y in ways) for u, v in directions)


class Parts(Checked):

    def holds(self, points, value, many):
        """The common part, held against the words of the document."""
        self.assertIsInstance(value, tuple)
        parts, p = value
        self.assertIsInstance(parts, tuple)
        self.assertEqual(len(parts), many)
        for part in parts:
            self.assertIsInstance(part, tuple)
            self.assertEqual(list(part), sorted(part))
            self.assertTrue(part)
            self.assertTrue(is_in([points[k] for k in part], p))
        self.assertEqual(sorted(sum(parts, ())), list(range(len(points))))
        self.assertEqual(p, of(*at(p)))
        self.assertIs(shows_common(points, value), True)

    def test_radon(self):
        self.assertEqual(radon(SQUARE)[1], (1, 1, 1))
        self.holds(SQUARE, radon(SQUARE), 2)
        inner = plain((0, 0), (6, 0), (0, 6), (1, 1))
        self.assertEqual(radon(inner)[1], (1, 1, 1))
        self.holds(inner, radon(inner), 2)

    def test_points_on_a_line(self):
        for many in range(4, 13):
            for points in (ROW[:many], ROW[::-1][:many], ROW[1::2] + ROW[::2] if many == 12 else ROW[:many]):
                self.holds(points, radon(points), 2)
                if many >= 7:
                    self.holds(points, tverberg(points), 3)

    def test_on_borders(self):
        for points in (
            plain((0, 0), (4, 0), (0, 4), (2, 2)), plain((0, 0), (4, 0), (2, 0), (1, 3)),
            plain((1, 1), (0, 0), (2, 2), (1, 0)),
        ):
            self.holds(points, radon(points), 2)
        grid = plain(*[(x, y) for x in range(3) for y in range(3)])
        for k in range(9):
            points = grid[k:] + grid[:k]
            self.holds(points[:7], tverberg(points[:7]), 3)
            self.holds(points, tverberg(points), 3)

    def test_any_points(self):
        rows = seeded(70)
        for many in (4, 5, 6, 7, 7, 8, 9, 20, 40):
            for size, most in ((2, 1), (4, 1), (3, 3), (9, 9), (LIMIT, LIMIT)):
                if many > 20 and size == 2:
                    continue
                points = some_points(rows, many, size, most)
                self.holds(points, radon(points), 2)
                if many >= 7:
                    self.holds(points, tverberg(points), 3)

    def test_shows_common(self):
        p = (1, 1, 1)
        self.assertIs(shows_common(SQUARE, (HALVES, p)), True)
        self.assertIs(shows_common(SQUARE, (HALVES[::-1], p)), True)
        self.assertIs(shows_common(SQUARE, (((0, 1, 2, 3),), p)), True)
        self.assertIs(shows_common(SQUARE, (((0, 1, 2, 3),), (2, 1, 1))), True)
        self.assertIs(shows_common(SQUARE, (((0, 1, 2, 3),), (0, 0, 1))), True)
        self.assertIs(shows_common(SQUARE, (((0, 1, 2, 3),), (3, 1, 1))), False)
        self.assertIs(shows_common(SQUARE, (((0, 1), (2, 3)), p)), False)
        self.assertIs(shows_common(((1, 2, 3),), (((0,),), (1, 2, 3))), True)
        self.assertIs(shows_common(((1, 2, 3),), (((0,),), (1, 2, 4))), False)
        self.assertIs(shows_common(SQUARE + (p,), (HALVES + ((4,),), p)), True)
        self.assertIs(shows_common(SQUARE + (p,), (((0, 1, 2, 3), (4,)), p)), True)

    def test_shows_common_points_of_any_size(self):
        one = of(Fraction(1) + Fraction(1, BIG), 1)
        self.assertIs(shows_common(SQUARE, (((0, 1, 2, 3),), one)), True)
        self.assertIs(shows_common(SQUARE, (HALVES, one)), False)
        self.assertIs(shows_common(SQUARE, (((0, 1, 2, 3),), (2 * BIG + 1, BIG, BIG))), False)

    def test_shows_common_wrong_values(self):
        p = (1, 1, 1)
        wrong_parts = STRANGE + (
            ((0, 2),), ((0, 2), (1,)), ((0, 2), (1, 3), ()), ((0, 2), (1, 3), (3,)), ((2, 0), (1, 3)),
            ((0, 2), (1, 4)), ((0, 2), (-1, 1)), ((0, 2, 2), (1, 3)), ([0, 2], [1, 3]), [(0, 2), (1, 3)],
            ((False, 2), (True, 3)), ((0, 2), "13"), ((0, 2), (1, "3")), ((0, 2), (1, (3,))), ((0, 2), (1, None)),
            ((0, 2), (1, 3), (0, 2)), deep(50), ((0, 2), {1: 3}), (HALVES,), (0, 1, 2, 3),
        )
        for parts in wrong_parts:
            self.assertIs(shows_common(SQUARE, (parts, p)), False)
        for other in BAD_POINTS + (deep(50),):
            self.assertIs(shows_common(SQUARE, (HALVES, other)), False)
        for value in STRANGE + (deep(50), HALVES, (HALVES,), (HALVES, p, p), [HALVES, p], (p, HALVES), {HALVES: p}):
            self.assertIs(shows_common(SQUARE, value), False)

    def test_wrong_points(self):
        for call, least in ((radon, 4), (tverberg, 7)):
            self.bad_points(call, (), ())
            for many in range(1, least):
                self.raised(TooFew, call, ROW[:many])
            self.holds(ROW[:least], call(ROW[:least]), 2 + least // 7)
        for value in (None, (HALVES, (1, 1, 1))):
            self.bad_points(shows_common, (), (value,))


class Depths(Checked):

    def holds(self, points, p, value):
        self.assertIsInstance(value, tuple)
        count, (u, v) = value
        self.assertEqual([one.__class__ for one in (count, u, v)], [int] * 3)
        self.assertNotEqual((u, v), (0, 0))
        self.assertEqual(least_beyond(points, p, [(u, v)]), count)

    def test_depth(self):
        deep_ones = {(1, 1, 1): 2, (0, 0, 1): 1, (1, 0, 1): 1, (1, 1, 2): 1, (3, 1, 1): 0, (-1, 0, 1): 0}
        for p, told in deep_ones.items():
            self.assertEqual(depth(SQUARE, p)[0], told)
            self.holds(SQUARE, p, depth(SQUARE, p))
        inside = SQUARE + plain((1, 1))
        self.assertEqual(depth(inside, (1, 1, 1))[0], 3)

    def test_one_point_and_points_on_a_line(self):
        one = ((1, 2, 3),)
        self.assertEqual(depth(one, one[0])[0], 1)
        self.holds(one, one[0], depth(one, one[0]))
        self.assertEqual(depth(one, (1, 2, 4))[0], 0)
        for k in range(12):
            found = depth(ROW, ROW[k])
            self.assertEqual(found[0], min(k + 1, 12 - k))
            self.holds(ROW, ROW[k], found)
        self.assertEqual(depth(ROW, (11, 11, 1))[0], 0)
        self.assertEqual(depth(ROW, (11, 22, 2))[0], 6)

    def test_depth_by_all_directions(self):
        rows = seeded(71)
        seen = set()
        for many in (1, 2, 3, 5, 8, 12):
            for _ in range(12):
                points = some_points(rows, many, 3)
                p = some_point(rows, 3, 1, 1) if rows.random() < 0.6 else rows.choice(points)
                told = least_beyond(points, p, GRID)
                found = depth(points, p)
                self.assertEqual(found[0], told)
                self.holds(points, p, found)
                seen.add(told)
        self.assertLessEqual({0, 1, 2}, seen)
        self.assertGreater(max(seen), 2)

    def test_large_coordinates(self):
        points = ((LIMIT, LIMIT, 1), (-LIMIT, 1 - LIMIT, 1), (LIMIT, 1 - LIMIT, 1), (1, 1, LIMIT), (-1, LIMIT, 1))
        for p in points + ((0, 0, 1), (1, -1, LIMIT)):
            self.holds(points, p, depth(points, p))
            self.assertGreaterEqual(depth(points, p)[0], 1)

    def test_center(self):
        rows = seeded(72)
        for many in range(1, 13):
            for size, most in ((2, 1), (3, 3), (LIMIT, LIMIT)):
                points = some_points(rows, many, size, most)
                p = center(points)
                self.assertEqual(p, of(*at(p)))
                self.assertGreaterEqual(3 * least_beyond(points, p, GRID), many)
                if max(p) <= LIMIT:
                    self.assertGreaterEqual(3 * depth(points, p)[0], many)

    def test_center_of_special_points(self):
        clusters = plain(*[(x + dx, y + dy) for x, y in ((0, 0), (16, 0), (5, 17))
                           for dx, dy in ((0, 0), (1, 0), (0, 1), (1, 2))])
        for points in (ROW, ROW[:7], clusters, on_curve(12), on_curve(10), on_curve(11)):
            p = center(points)
            ways = [(y - at(p)[1], at(p)[0] - x) for x, y, _ in points if (x, y, 1) != p]
            more = [(u + s, v + t) for u, v in ways for s, t in ways if (u, v) != (-s, -t)]
            self.assertGreaterEqual(3 * least_beyond(points, p, GRID + ways + more), len(points))

    def test_wrong_arguments(self):
        self.bad_points(depth, (), ((0, 0, 1),))
        self.bad_points(depth, (), (None,))
        self.bad_points(center, (), ())
        self.bad_point(depth, (SQUARE,), ())
        for many in (13, 40):
            points = plain(*[(k, 0) for k in range(many)])
            self.raised(TooMany, depth, points, (0, 0, 1), most=12)
            self.raised(TooMany, center, points, most=12)
            self.raised(BadPoint, depth, points, (0, 0, 0))
            self.raised(BadPoints, depth, points + points[:1], (0, 0, 0), index=many if many < 40 else None)
