"""Turns, areas of triangles, points on segments."""

from itertools import combinations

from meshcore.errors import NotGeneral
from meshcore.exact import ratio, sign
from meshcore.points import check_each, order


def cross_row(u, v):
    """The three numbers of the line through two points, or of the point in which two lines meet."""
    return (u[1] * v[2] - u[2] * v[1], u[2] * v[0] - u[0] * v[2], u[0] * v[1] - u[1] * v[0])


def determinant(a, b, c):
    row = cross_row(b, c)
    return a[0] * row[0] + a[1] * row[1] + a[2] * row[2]


def orient(a, b, c):
    """What turn tells, for points of any size."""
    return sign(determinant(a, b, c))


def doubled(a, b, c):
    """What area2 tells, for points of any size."""
    return ratio(determinant(a, b, c), a[2] * b[2] * c[2])


def on_segment(a, b, p):
    """What between tells, for points of any size."""
    return orient(a, b, p) == 0 and order(a, p) * order(p, b) >= 0


def triple_turns(points):
    """The turns of all triples of indexes, the triples in ascending order."""
    rows = combinations_of_three(len(points))
    return [orient(points[i], points[j], points[k]) for i, j, k in rows]


def combinations_of_three(many):
    return list(combinations(range(many), 3))


def in_all_orders(many, turns):
    """A dict of the turns of all triples in any order, made of those of the ascending triples."""
    table = {}
    for (i, j, k), one in zip(combinations_of_three(many), turns):
        for row in ((i, j, k), (j, k, i), (k, i, j)):
            table[row] = one
        for row in ((i, k, j), (k, j, i), (j, i, k)):
            table[row] = -one
    return table


def turn_table(points):
    """The turns of all triples of indexes in any order."""
    return in_all_orders(len(points), triple_turns(points))


def edges_cross(table, one, other):
    """Whether two edges cross, for points with a table of their turns."""
    i, j = one
    k, m = other
    if i in other or j in other:
        return False
    return table[i, j, k] * table[i, j, m] < 0 and table[k, m, i] * table[k, m, j] < 0


def check_general(points):
    if 0 in triple_turns(points):
        raise NotGeneral()


def turn(a, b, c):
    """1 if the way from a to b to c turns left, -1 if right, 0 if the points lie on a line."""
    check_each((a, b, c))
    return orient(a, b, c)


def area2(a, b, c):
    """Twice the area of the triangle, with the sign of the turn."""
    check_each((a, b, c))
    return doubled(a, b, c)


def between(a, b, p):
    """Whether p lies on the segment from a to b, ends included."""
    check_each((a, b, p))
    return on_segment(a, b, p)
