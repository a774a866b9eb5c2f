"""Delaunay triangulations and measures of triangulations."""

from meshcore.circles import in_circle, span2
from meshcore.errors import BadHeights
from meshcore.exact import are_numbers, by_value, is_less, plus, ratio, times
from meshcore.points import gap2
from meshcore.triangulations import check_mesh, check_mesh_points, first_mesh, inner_edges, settled
from meshcore.triangulations import sides_with_rest
from meshcore.turns import determinant, turn_table


def is_illegal(points, edge, rest):
    i, j = edge
    return in_circle(points[i], points[j], points[rest[0]], points[rest[1]]) > 0


def illegal_edges(points, triangles):
    """The illegal edges of a triangulation."""
    check_mesh(points, triangles)
    return tuple([edge for edge, rest in inner_edges(triangles) if is_illegal(points, edge, rest)])


def delaunay(points):
    """A triangulation without illegal edges."""
    check_mesh_points(points)
    triangles, _ = settled(points, first_mesh(turn_table(points), len(points)))
    return triangles


def cotangent(a, b, c):
    """The cotangent of the angle at c."""
    upper = (a[0] * c[2] - c[0] * a[2]) * (b[0] * c[2] - c[0] * b[2])
    upper += (a[1] * c[2] - c[1] * a[2]) * (b[1] * c[2] - c[1] * b[2])
    # both products have the denominator a, b, c, c; the determinant has a, b, c
    return ratio(upper, abs(determinant(a, b, c)) * c[2])


def angles(points, triangle):
    """The sides of a triangle, each with the cotangent of the opposite angle."""
    rows = sides_with_rest(triangle)
    return [(i, j, cotangent(points[i], points[j], points[k])) for (i, j), k in rows]


def angle_row(points, triangles):
    """The cotangents of all angles, the greatest one first."""
    check_mesh(points, triangles)
    found = []
    for triangle in triangles:
        found.extend([row[2] for row in angles(points, triangle)])
    return tuple(by_value(found)[::-1])


def roughness(points, triangles, heights):
    """The integral of the squared slope of the surface with these heights."""
    check_mesh(points, triangles)
    if not are_numbers(heights, len(points)):
        raise BadHeights()
    total = (0, 1)
    for triangle in triangles:
        for i, j, one in angles(points, triangle):
            rise = heights[i] - heights[j]
            total = plus(total, times((rise * rise, 2), one))
    return total


def cap(points, triangle):
    """The squared radius of the least circle that has the triangle in it."""
    for i, j, one in angles(points, triangle):
        if one[0] <= 0:
            return times(gap2(points[i], points[j]), (1, 4))
    a, b, c = [points[k] for k in triangle]
    return span2(a, b, c)


def largest_cap(points, triangles):
    """The greatest squared radius of the least circles around the triangles."""
    check_mesh(points, triangles)
    most = (0, 1)
    for triangle in triangles:
        one = cap(points, triangle)
        if is_less(most, one):
            most = one
    return most
