"""Circles through three points."""

from itertools import combinations

from meshcore.errors import Collinear, NotGeneric
from meshcore.exact import sign
from meshcore.points import check_each, gap2, lowest, way
from meshcore.turns import cross_row, determinant, orient


def lifted(p, d):
    """The way from d to p and the square of its length, times a common number above 0."""
    x = p[0] * d[2] - d[0] * p[2]
    y = p[1] * d[2] - d[1] * p[2]
    w = p[2] * d[2]
    return (x * w, y * w, x * x + y * y)


def in_circle(a, b, c, d):
    """What circle_side tells, for points of any size that are not on a line."""
    depth = determinant(lifted(a, d), lifted(b, d), lifted(c, d))
    return sign(depth) * orient(a, b, c)


def bisector(a, b):
    """The three numbers of the line of all points as far from a as from b."""
    x, y, square = lifted(b, (0, 0, 1))
    u, v, other = lifted(a, (0, 0, 1))
    one = a[2] * a[2]
    two = b[2] * b[2]
    return (2 * (x * one - u * two), 2 * (y * one - v * two), other * two - square * one)


def center_of(a, b, c):
    """What circumcenter tells, for points of any size that are not on a line."""
    x, y, w = cross_row(bisector(a, b), bisector(a, c))
    return lowest(x, y, w)


def span2(a, b, c):
    """What radius2 tells, for points of any size that are not on a line."""
    return gap2(center_of(a, b, c), a)


def disk_side(a, b, p):
    """1 if p lies inside the circle that has the segment from a to b as diameter, 0 if on it, otherwise -1."""
    x, y = way(p, a)
    u, v = way(p, b)
    return -sign(x * u + y * v)


def points_inside(points, triple):
    """The indexes of the points inside the circle through three points that are not on a line."""
    a, b, c = [points[k] for k in triple]
    return [k for k, p in enumerate(points) if in_circle(a, b, c, p) > 0]


def check_round(points):
    """The error for points, no three on a line, of which four lie on a circle."""
    for a, b, c, d in combinations(list(points), 4):
        if in_circle(a, b, c, d) == 0:
            raise NotGeneric()


def check_circle(a, b, c):
    check_each((a, b, c))
    if orient(a, b, c) == 0:
        raise Collinear()


def circle_side(a, b, c, d):
    """1 if d lies inside the circle through a, b and c, 0 if on it, otherwise -1."""
    check_circle(a, b, c)
    check_each((d,))
    return in_circle(a, b, c, d)


def circumcenter(a, b, c):
    """The center of the circle through three points."""
    check_circle(a, b, c)
    return center_of(a, b, c)


def radius2(a, b, c):
    """The square of the radius of the circle through three points."""
    check_circle(a, b, c)
    return span2(a, b, c)
