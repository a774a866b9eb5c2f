"""Which points of a list the inside of a triangle sees past edges."""

from meshcore.exact import by_value, plus, ratio
from meshcore.linear import product_of
from meshcore.points import lowest, middle, way
from meshcore.segments import are_crossing
from meshcore.triangulations import sides_with_rest
from meshcore.turns import cross_row, orient


def outermost(points, triangle, p):
    """The first and the last corner of a triangle, counterclockwise, seen from a point p outside."""
    found = []
    for side in (1, -1):
        for i in triangle:
            if min([orient(p, points[i], points[k]) * side for k in triangle]) >= 0:
                found.append(points[i])
                break
    return found


def turned(u, v):
    """Above 0 if the way v leads to the left of the way u."""
    return u[0] * v[1] - u[1] * v[0]


def stops(points, p, first, last):
    """The ratios, ascending, that tell the ways from p to points between two ways as mixtures of these.

    0 stands for the first way, 1 for the last one."""
    found = {(0, 1): True, (1, 1): True}
    for other in points:
        there = way(p, other)
        one = turned(first, there)
        two = turned(there, last)
        if one > 0 and two > 0:
            found[ratio(one, one + two)] = True
    return by_value(list(found))


def ways_between(points, triangle, p):
    """Ways from a point p outside through a triangle: one between each two successive points there."""
    a, b = outermost(points, triangle, p)
    first = way(p, a)
    last = way(p, b)
    found = []
    rows = stops(points, p, first, last)
    for one, other in zip(rows[:-1], rows[1:]):
        upper, lower = plus(one, other)
        rest = 2 * lower - upper
        found.append((rest * first[0] + upper * last[0], rest * first[1] + upper * last[1]))
    return found


def point_along(points, triangle, p, there):
    """A point inside a triangle on a way from p that leads past its corners."""
    line = cross_row(p, (there[0], there[1], 0))
    found = []
    for (i, j), _ in sides_with_rest(triangle):
        a, b = points[i], points[j]
        if product_of(line, a) * product_of(line, b) < 0:
            x, y, w = cross_row(line, cross_row(a, b))
            found.append(lowest(x, y, w))
    return middle(found[0], found[1])


def is_hidden(points, edges, p, q):
    """Whether an edge crosses the segment from p to q."""
    for i, j in edges:
        if are_crossing(points[i], points[j], p, q):
            return True
    return False


def is_visible(points, edges, triangle, at):
    """Whether a point outside of a triangle is visible from inside, if no edge passes the inside."""
    # between two successive ways to points the same edges lie ahead of the triangle everywhere
    for there in ways_between(points, triangle, points[at]):
        inner = point_along(points, triangle, points[at], there)
        if not is_hidden(points, edges, points[at], inner):
            return True
    return False
