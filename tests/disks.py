"""What the tests of growing disks and of nearest points share: generic points, circles with fractions, wrong lists."""

from fractions import Fraction
from itertools import combinations

from meshcore.errors import BadRadius, NotGeneral, NotGeneric, TooMany
from tests.helpers import STRANGE, Checked, at, cross, deep, is_general, on_curve, plain, some_point

# points on the circle around the origin with the squared radius 25
ROUND = plain((5, 0), (4, 3), (3, 4), (0, 5), (-3, 4), (-4, 3), (-5, 0), (-4, -3), (3, -4), (4, -3))

# values that are no squared radius, behind the strange ones
BAD_RADIUS = STRANGE + ((1, 0), (2, 4), (0, 2), (1, -1), (-1, 1), (-1, 7), (1, True), (True, 1), [1, 1], (1, 1, 1), 3)


def gap(p, q):
    """The squared distance of two pairs of fractions."""
    return (p[0] - q[0]) ** 2 + (p[1] - q[1]) ** 2


def circle(p, q, r):
    """The center and the squared radius of a circle through three pairs of fractions."""
    double = 2 * cross(p, q, r)
    u, v = gap(q, p), gap(r, p)
    x = (u * (r[1] - p[1]) - v * (q[1] - p[1])) / double
    y = (v * (q[0] - p[0]) - u * (r[0] - p[0])) / double
    center = (p[0] + x, p[1] + y)
    return (center, gap(center, p))


def inside(spots, triple):
    """The indexes of the points inside the circle through three of them."""
    center, square = circle(*[spots[k] for k in triple])
    return [k for k, p in enumerate(spots) if gap(center, p) < square]


def is_round(points):
    """Whether no four points lie on a circle; no three of them lie on a line."""
    spots = [at(p) for p in points]
    for triple in combinations(range(len(points)), 3):
        center, square = circle(*[spots[k] for k in triple])
        if any(gap(center, p) == square for k, p in enumerate(spots) if k not in triple):
            return False
    return True


def middle_of(p, q):
    return ((p[0] + q[0]) / 2, (p[1] + q[1]) / 2)


def has_disk_ties(points):
    """Whether a point lies on the circle with the segment between two others as diameter."""
    spots = [at(p) for p in points]
    for p, q in combinations(spots, 2):
        if any(gap(middle_of(p, q), r) == gap(p, q) / 4 for r in spots if r not in (p, q)):
            return True
    return False


def some_round(rows, many, size=15, most=1):
    """Points of which no three lie on a line and no four on a circle."""
    found = []
    while len(found) < many:
        p = some_point(rows, size, 1, most)
        if p not in found and is_general(found + [p]) and is_round(found + [p]):
            found.append(p)
    return tuple(found)


def some_generic(rows, many, size=15, most=1):
    """Points as disks may grow around them."""
    found = ()
    while len(found) < many:
        p = some_point(rows, size, 1, most)
        rest = found + (p,)
        if p not in found and is_general(rest) and is_round(rest) and not has_disk_ties(rest):
            found = rest
    return found


def mixed_rank(rows):
    """The rank modulo 2 of rows that are sets of anything."""
    left = [set(row) for row in rows]
    rank = 0
    while left:
        row = left.pop()
        if row:
            rank += 1
            place = min(row)
            left = [other ^ row if place in other else other for other in left]
    return rank


class CheckedDisks(Checked):

    def bad_growing(self, call, *rest):
        """The points of promises [29] to [32]: all their errors, in their order."""
        self.bad_points(call, (), rest)
        flat = plain(*[(k, 0) for k in range(13)])
        for points in (on_curve(13), on_curve(40), flat, ROUND + flat[6:9]):
            self.raised(TooMany, call, points, *rest, most=12)
        for points in (flat[:3], flat[:12], plain((0, 0), (2, 1), (5, 5), (4, 2)), ROUND[:4] + ((0, 0, 1), (-5, 0, 1))):
            self.raised(NotGeneral, call, points, *rest)
        right = plain((0, 0), (4, 0), (0, 3))
        wide = plain((-5, 0), (0, 1), (7, 2), (5, 0), (3, 4))
        rounded = plain((0, 0), (7, 0), (2, 6), (5, 6))
        self.assertFalse(has_disk_ties(rounded))
        for points in (right, wide, wide[::-1], rounded, ROUND[:4], ((0, 0, 1), (1, 2, 3), (4, -2, 3))):
            self.raised(NotGeneric, call, points, *rest)
        self.raised(NotGeneral, call, right + ((8, 0, 1),), *rest)

    def bad_radius(self, call, *before):
        for value in BAD_RADIUS:
            if value != (1, 2):
                with self.subTest(value=value):
                    self.raised(BadRadius, call, *before, value)
        self.raised(BadRadius, call, *before, deep(50))

    def bad_both(self, call):
        """A squared radius that is wrong comes behind all errors of the points."""
        self.bad_growing(call, (1, 2))
        self.bad_growing(call, -1)
        for points in (plain((2, 3)), plain((0, 0), (4, 1), (1, 3))):
            self.bad_radius(call, points)


def critical(values):
    """Ratios at, just below and just above some fractions, and 0."""
    found = [Fraction(0)]
    values = sorted(set(values))
    least = min([b - a for a, b in zip(values, values[1:])] + [Fraction(1)])
    for one in values:
        found.extend([one - least / 3, one, one + least / 3])
    return [one for one in found if one >= 0]
