"""What the tests share: strange values, errors with their fields, slow exact references."""

import random
import unittest
from fractions import Fraction
from itertools import combinations
from math import lcm

from meshcore.errors import BadEdges, BadPoint, BadPoints, NotGeneral, TooFew, TooMany
from meshcore.points import point

LIMIT = 10 ** 12

# None of these is a point, a ratio, a point list, a polygon or an edge.
STRANGE = (
    None, True, False, 0, 1, -7, 10 ** 30, "", "in", "out", "point",
    (), [], {}, (1,), (1, 2), [1, 2], (1, 2, 3, 4), (None,), (True,), ("in",), ("out",),
    (1, 2, None), (1, 2, "3"), ("1", 2, 3), (1, (2,), 3), (1, [2], 3), ({}, 2, 3),
    ((1, 2, 1), 5), (((1, 2, 1),),), [(1, 2, 1)], {(1, 2, 1): True}, ([], [], []), ({}, {}, {}),
)

# Triples of which none is a point.
BAD_POINTS = STRANGE + (
    (1, 2, True), (True, 2, 1), (1, False, 1), [1, 2, 1], "121", (1, 2, 0), (1, 2, -1),
    (2, 4, 2), (0, 0, 2), (0, 0, 0), (3, 6, 9), (LIMIT + 1, 0, 1), (0, -LIMIT - 1, 1),
    (1, 1, LIMIT + 1), (1, 2, 1, 1),
)


def deep(many):
    """A tuple in a tuple in a tuple .."""
    value = ()
    for _ in range(many):
        value = (value,)
    return value


def at(p):
    """The coordinates of a point as fractions."""
    return (Fraction(p[0], p[2]), Fraction(p[1], p[2]))


def of(x, y):
    """The point with two fractions as coordinates, of any size."""
    x, y = Fraction(x), Fraction(y)
    w = lcm(x.denominator, y.denominator)
    return (int(x * w), int(y * w), w)


def rat(value):
    """The ratio of a fraction."""
    value = Fraction(value)
    return (value.numerator, value.denominator)


def frac(value):
    return Fraction(value[0], value[1])


def plain(*pairs):
    """Points with integer coordinates."""
    return tuple((x, y, 1) for x, y in pairs)


def cross(a, b, c):
    """Twice the area of a triangle with fractions as coordinates."""
    return (b[0] - a[0]) * (c[1] - a[1]) - (b[1] - a[1]) * (c[0] - a[0])


def sign(value):
    return (value > 0) - (value < 0)


def some_point(rows, size=4, least=1, most=3):
    return point(rows.randint(-size, size), rows.randint(-size, size), w=rows.randint(least, most))


def some_points(rows, many, size=4, most=1):
    found = []
    while len(found) < many:
        p = some_point(rows, size, 1, most)
        if p not in found:
            found.append(p)
    return tuple(found)


def some_mesh_points(rows, many, size=4, most=1):
    while True:
        found = some_points(rows, many, size, most)
        first, second = at(found[0]), at(found[1])
        if any(cross(first, second, at(p)) != 0 for p in found):
            return found


def is_general(points):
    return all(cross(*[at(p) for p in three]) != 0 for three in combinations(points, 3))


def some_general(rows, many, size=9, most=1):
    """Points of which no three lie on a line."""
    found = []
    while len(found) < many:
        p = some_point(rows, size, 1, most)
        if p not in found and is_general(found + [p]):
            found.append(p)
    return tuple(found)


def on_curve(many):
    """Points in convex position."""
    return plain(*[(k, k * k) for k in range(many)])


def pairs_of(many):
    return list(combinations(range(many), 2))


# For points with small integer coordinates these are directions of every kind: all that
# lie at right angles to a way between two of them, and some between any two such.
GRID = [(u, v) for u in range(-18, 19) for v in range(-18, 19) if (u, v) != (0, 0)]


def clipped(polygon, a, b):
    """The part of a convex polygon on the left of the line from a to b."""
    found = []
    for k, p in enumerate(polygon):
        q = polygon[(k + 1) % len(polygon)]
        here, there = cross(a, b, p), cross(a, b, q)
        if here >= 0:
            found.append(p)
        if here * there < 0:
            part = here / (here - there)
            found.append((p[0] + part * (q[0] - p[0]), p[1] + part * (q[1] - p[1])))
    return found


def left(corners):
    """The corners of a triangle, counterclockwise."""
    if cross(*corners) < 0:
        return [corners[0], corners[2], corners[1]]
    return list(corners)


def shared_area(one, other):
    """Twice the area that two triangles share, by clipping the one with the other."""
    rest = left(one)
    border = left(other)
    for k in range(3):
        rest = clipped(rest, border[k], border[(k + 1) % 3])
    total = Fraction(0)
    for k in range(2, len(rest)):
        total += cross(rest[0], rest[k - 1], rest[k])
    return total


def in_triangle(corners, p):
    """Whether p lies in a triangle or on its sides."""
    border = left(corners)
    return all(cross(border[k], border[(k + 1) % 3], p) >= 0 for k in range(3))


def seeded(seed):
    return random.Random(seed)


class Checked(unittest.TestCase):
    """A test case that holds errors against their class and their fields."""

    def raised(self, error, call, *rows, **fields):
        with self.assertRaises(error) as caught:
            call(*rows)
        self.assertIs(caught.exception.__class__, error)
        for name, value in fields.items():
            told = getattr(caught.exception, name)
            self.assertEqual(told, value)
            self.assertIs(told.__class__, value.__class__)

    def bad_points(self, call, before, after):
        """A point list as an argument: every kind of wrong one, and the index told."""
        good = plain((0, 0), (4, 0), (0, 4))
        long = tuple((k, k * k, 1) for k in range(41))
        for value in (None, True, 0, -7, "", "abc", {}, [], (), list(good), {good[0]: 1}, long):
            with self.subTest(value=value):
                self.raised(BadPoints, call, *before, value, *after, index=None)
        for value in BAD_POINTS + (deep(50), good[0], good[1]):
            for rest in (good[2:], good[2:] + (good[2], 5)):
                rows = good[:2] + (value,) + rest
                with self.subTest(rows=rows):
                    self.raised(BadPoints, call, *before, rows, *after, index=2)
        self.raised(BadPoints, call, *before, (7,), *after, index=0)
        self.raised(BadPoints, call, *before, good + good[1:], *after, index=3)
        self.raised(BadPoints, call, *before, long[:39] + (long[0],), *after, index=39)

    def bad_point(self, call, before, after):
        """A point as an argument: every kind of wrong one."""
        for value in BAD_POINTS + (deep(50),):
            with self.subTest(value=value):
                self.raised(BadPoint, call, *before, value, *after)

    def bad_few(self, call, *rest):
        """The points of promises [19] to [22]: all their errors, ahead of those of what follows."""
        self.bad_points(call, (), rest)
        for points in (on_curve(1), ((5, 7, 3),)):
            self.raised(TooFew, call, points, *rest)
        flat = plain(*[(k, 0) for k in range(13)])
        for points in (on_curve(13), on_curve(40), flat):
            self.raised(TooMany, call, points, *rest, most=12)
        for points in (flat[:12], flat[:3], on_curve(11) + ((-1, -1, 1),), on_curve(3) + ((1, 2, 2),)):
            self.raised(NotGeneral, call, points, *rest)

    def bad_edges(self, call, *rest):
        """An edge set behind four points: every kind of wrong one, and the index told."""
        points = on_curve(4)
        for value in (None, True, 0, 7, "", "ab", [], {}, [(0, 1)], {(0, 1): True}):
            with self.subTest(value=value):
                self.raised(BadEdges, call, points, value, *rest, index=None)
        wrong = [value for value in STRANGE if value != (1, 2)] + [
            (0, 0), (1, 0), (3, 1), (0, 4), (-1, 2), (0, 1, 2), [0, 1], (False, 2), (0, True), "01",
            (0, 10 ** 30), ((0, 1),), (0, 1), (0, 2), deep(50),
        ]
        for value in wrong:
            for behind in ((), ((0, 3), 5), ((0, 1),)):
                with self.subTest(value=value):
                    self.raised(BadEdges, call, points, ((0, 1), (0, 2), value) + behind, *rest, index=2)
        self.raised(BadEdges, call, points, ((0, 4),), *rest, index=0)
        self.raised(BadEdges, call, points, ((),), *rest, index=0)
        self.raised(BadEdges, call, points, ((0, 2), (0, 1)), *rest, index=1)
        self.raised(BadEdges, call, points, ((0, 2), (0, 2), 5), *rest, index=1)
        self.raised(BadEdges, call, points[:3], ((0, 1), (0, 3)), *rest, index=1)
