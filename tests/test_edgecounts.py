"""Promises [15] and [16]: points on both sides of lines, halving lines, separable sets."""

from itertools import combinations, permutations
from math import comb

from meshcore.edgecounts import crossing_count, halving_both, halving_pairs, left_counts, separable
from meshcore.errors import BadNumber, BadPair, BadPoints, NotGeneral, TooFew
from meshcore.segments import crosses
from tests.helpers import GRID, LIMIT, STRANGE, Checked, at, cross, is_general, on_curve, pairs_of, plain, seeded
from tests.helpers import some_general, some_points

COUNTS = (left_counts, crossing_count, halving_pairs)


def sides(points, a, b):
    """How many points lie to the left and to the right of the way from a to b."""
    turns = [cross(at(a), at(b), at(p)) for p in points]
    return (sum(one > 0 for one in turns), sum(one < 0 for one in turns))


def separable_by_words(points, k):
    """For points with small integer coordinates: along all directions of a grid."""
    found = set()
    for u, v in GRID:
        rows = sorted((u * p[0] + v * p[1], i) for i, p in enumerate(points))
        if k in (0, len(rows)) or rows[k - 1][0] < rows[k][0]:
            found.add(tuple(sorted(i for _, i in rows[:k])))
    return tuple(sorted(found))


class Counts(Checked):

    def test_left_counts(self):
        self.assertEqual(left_counts(plain((0, 0), (5, 5))), (2,))
        self.assertEqual(left_counts(plain((0, 0), (5, 5), (1, 0))), (3, 3))
        self.assertEqual(left_counts(plain((0, 0), (6, 0), (0, 6), (1, 1))), (3, 6, 3))
        self.assertEqual(left_counts(on_curve(7)), (7,) * 6)

    def test_left_counts_like_fractions(self):
        rows = seeded(63)
        for many in (2, 3, 4, 5, 6, 8, 9):
            points = some_general(rows, many, 6, 2)
            told = [0] * (many - 1)
            for i, j in permutations(range(many), 2):
                told[sides(points, points[i], points[j])[0]] += 1
            self.assertEqual(left_counts(points), tuple(told))
            for k in range(many):
                if 2 * k < many - 2:
                    self.assertGreaterEqual(sum(told[:k + 1]), 3 * comb(k + 2, 2))

    def test_forty_points(self):
        points = on_curve(40)
        self.assertEqual(left_counts(points), (40,) * 39)
        self.assertEqual(crossing_count(points), comb(40, 4))
        self.assertEqual(len(separable(points, 7)), 40)

    def test_large_coordinates(self):
        points = ((-LIMIT, -LIMIT, 1), (LIMIT, LIMIT - 1, 1), (1, 1, LIMIT), (LIMIT, 1 - LIMIT, LIMIT))
        self.assertTrue(is_general(points))
        told = [0] * 3
        for a, b in permutations(points, 2):
            told[sides(points, a, b)[0]] += 1
        self.assertEqual(left_counts(points), tuple(told))

    def test_crossing_count(self):
        self.assertEqual([crossing_count(on_curve(k)) for k in range(1, 8)], [0, 0, 0, 1, 5, 15, 35])
        self.assertEqual(crossing_count(plain((0, 0), (6, 0), (0, 6), (1, 1))), 0)
        rows = seeded(64)
        for many in (4, 5, 6, 7, 8):
            points = some_general(rows, many, 6, 2)
            segments = list(combinations(points, 2))
            told = sum(crosses(*one, *other) for one, other in combinations(segments, 2))
            self.assertEqual(crossing_count(points), told)

    def test_halving_pairs(self):
        self.assertEqual(halving_pairs(((3, 4, 5),)), ())
        self.assertEqual(halving_pairs(on_curve(2)), ((0, 1),))
        self.assertEqual(halving_pairs(on_curve(3)), ())
        self.assertEqual(halving_pairs(plain((0, 0), (6, 0), (0, 6), (1, 1))), ((0, 3), (1, 3), (2, 3)))
        rows = seeded(65)
        for many in (2, 3, 4, 5, 6, 7, 8, 10):
            points = some_general(rows, many, 6, 2)
            told = []
            for i, j in pairs_of(many):
                left, right = sides(points, points[i], points[j])
                if left == right:
                    told.append((i, j))
            self.assertEqual(halving_pairs(points), tuple(told))
            for k in range(many):
                self.assertEqual(sum(k in pair for pair in told) % 2, (many + 1) % 2)

    def test_separable(self):
        self.assertEqual(separable(((1, 2, 3),), 0), ((),))
        self.assertEqual(separable(((1, 2, 3),), 1), ((0,),))
        self.assertEqual(separable(on_curve(2), 1), ((0,), (1,)))
        inner = plain((0, 0), (6, 0), (0, 6), (1, 1))
        self.assertEqual(separable(inner, 1), ((0,), (1,), (2,)))
        self.assertEqual(separable(inner, 2), ((0, 1), (0, 2), (0, 3), (1, 2), (1, 3), (2, 3)))
        self.assertEqual(separable(inner, 3), ((0, 1, 3), (0, 2, 3), (1, 2, 3)))
        self.assertEqual(separable(inner, 4), ((0, 1, 2, 3),))
        self.assertEqual(separable(inner, 0), ((),))

    def test_separable_by_words(self):
        rows = seeded(66)
        for many in (3, 4, 5, 6, 7):
            points = some_general(rows, many, 4)
            counts = left_counts(points)
            for k in range(many + 1):
                found = separable(points, k)
                self.assertEqual(found, separable_by_words(points, k))
                if 0 < k < many:
                    self.assertEqual(len(found), counts[k - 1])

    def test_wrong_points(self):
        for call in COUNTS:
            self.bad_points(call, (), ())
        self.bad_points(separable, (), (0,))
        self.bad_points(separable, (), (None,))
        flat = plain((0, 0), (5, 1), (2, 2), (4, 4))
        for call in COUNTS:
            self.raised(NotGeneral, call, flat)
            self.raised(NotGeneral, call, on_curve(39) + ((39, 1519, 1),))
            self.raised(BadPoints, call, flat + (flat[0],), index=4)
        self.raised(TooFew, left_counts, ((1, 2, 3),))
        self.raised(NotGeneral, separable, flat, None)

    def test_bad_number(self):
        points = on_curve(3)
        for k in [value for value in STRANGE if value not in (0, 1) or isinstance(value, bool)]:
            self.raised(BadNumber, separable, points, k)
        for k in (-1, 4, 10 ** 30, (1,), [1], "1"):
            self.raised(BadNumber, separable, points, k)
        self.raised(BadNumber, separable, points[:1], 2)


class Both(Checked):

    def halves(self, red, blue):
        value = halving_both(red, blue)
        self.assertIsInstance(value, tuple)
        i, j = value
        self.assertEqual([i.__class__, j.__class__], [int, int])
        self.assertTrue(0 <= i < len(red) and 0 <= j < len(blue))
        for points in (red, blue):
            left, right = sides(points, red[i], blue[j])
            self.assertEqual(left, right)

    def test_one_of_each(self):
        self.assertEqual(halving_both(((0, 0, 1),), ((1, 2, 3),)), (0, 0))

    def test_halving_both(self):
        rows = seeded(67)
        for red, blue in ((1, 3), (3, 1), (3, 3), (1, 5), (5, 3), (5, 5), (7, 3), (9, 7)):
            for _ in range(6):
                points = some_general(rows, red + blue, 9, 2)
                self.halves(points[:red], points[red:])

    def test_apart_and_around(self):
        self.halves(plain((0, 0), (3, 1), (1, 4)), plain((100, 50), (103, 54), (101, 57)))
        self.halves(plain((1, 1), (2, 1), (1, 3)), plain((-20, -19), (31, -17), (2, 40)))
        curve = on_curve(40)
        self.halves(curve[:39:2][:19], curve[1:40:2][:19])
        self.halves(curve[:19], curve[19:38])

    def test_forty_points_are_even(self):
        curve = on_curve(40)
        self.raised(BadPair, halving_both, curve, plain((-1, 5)))
        self.halves(curve[:39], plain((-1, 5)))

    def test_wrong_points(self):
        blue = plain((10, 1),)
        self.bad_points(halving_both, (), (blue,))
        self.bad_points(halving_both, (), (None,))
        self.bad_points(halving_both, (blue,), ())
        self.bad_points(halving_both, (plain((0, 0), (1, 1)),), ())

    def test_bad_pair(self):
        three = plain((0, 0), (4, 1), (1, 5))
        self.raised(BadPair, halving_both, three[:2], plain((9, 9)))
        self.raised(BadPair, halving_both, three, plain((9, 9), (8, 7)))
        self.raised(BadPair, halving_both, three[:2], plain((9, 9), (8, 7)))
        self.raised(BadPair, halving_both, three, plain((4, 1)))
        self.raised(BadPair, halving_both, three, plain((9, 9), (8, 7), (0, 0)))
        # on a line, too: BadPair comes first
        self.raised(BadPair, halving_both, plain((0, 0), (1, 1)), plain((2, 2)))
        self.raised(BadPair, halving_both, plain((0, 0), (1, 1), (2, 2)), plain((2, 2)))

    def test_not_general(self):
        self.raised(NotGeneral, halving_both, plain((0, 0), (1, 1), (2, 2)), plain((5, 0)))
        self.raised(NotGeneral, halving_both, plain((5, 0)), plain((0, 0), (1, 1), (2, 2)))
        self.raised(NotGeneral, halving_both, plain((0, 0), (1, 1), (7, 2)), plain((3, 3)))
        rows = seeded(68)
        for _ in range(20):
            points = some_points(rows, 6, 2)
            if is_general(points):
                continue
            self.raised(NotGeneral, halving_both, points[:3], points[3:])
