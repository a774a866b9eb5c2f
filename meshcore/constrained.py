"""Triangulations that respect constraints, and the points that their triangles see."""

from itertools import combinations

from meshcore.circles import points_inside
from meshcore.delaunay import is_illegal
from meshcore.errors import BadConstraints, NotTriangulation
from meshcore.pointed import check_edges
from meshcore.segments import common_part
from meshcore.triangulations import check_mesh_points, check_triangulation, first_mesh, inner_edges
from meshcore.triangulations import rests_of_edges, settled
from meshcore.turns import on_segment, turn_table
from meshcore.views import is_visible


def have_more_common(points, one, other):
    """Whether two edges have a point in common that is not an end of both."""
    a, b = [points[k] for k in one]
    c, d = [points[k] for k in other]
    for p in common_part(a, b, c, d):
        if p not in (a, b) or p not in (c, d):
            return True
    return False


def has_inner_point(points, edge):
    """Whether a point of the list lies on an edge and is not an end."""
    a, b = [points[k] for k in edge]
    for k, p in enumerate(points):
        if k not in edge and on_segment(a, b, p):
            return True
    return False


def check_constraints(points, constraints):
    """The errors of points and constraints; returns the table of turns."""
    check_mesh_points(points)
    check_edges(constraints, len(points))
    for a, b in combinations(range(len(constraints)), 2):
        if have_more_common(points, constraints[a], constraints[b]):
            raise BadConstraints(a, b)
    for a, edge in enumerate(constraints):
        if has_inner_point(points, edge):
            raise BadConstraints(a, None)
    return turn_table(points)


def check_constrained(points, constraints, triangles):
    """The errors of points, constraints and any triangulation."""
    table = check_constraints(points, constraints)
    check_triangulation(points, table, triangles)


def has_sides(triangles, edges):
    """Whether all edges are sides of triangles."""
    sides = rests_of_edges(triangles)
    return [edge for edge in edges if edge not in sides] == []


def mesh_along(points, table, edges):
    """A triangulation that has all edges as sides and no other illegal edges."""
    triangles, _ = settled(points, first_mesh(table, len(points), edges), edges)
    return triangles


def constrained(points, constraints):
    """A triangulation that respects constraints."""
    table = check_constraints(points, constraints)
    return mesh_along(points, table, constraints)


def respects(points, constraints, triangles):
    """Whether all constraints are sides and no other edge is illegal."""
    check_constrained(points, constraints, triangles)
    if not has_sides(triangles, constraints):
        return False
    for edge, rest in inner_edges(triangles):
        if edge not in constraints and is_illegal(points, edge, rest):
            return False
    return True


def seen_in_circles(points, constraints, triangles):
    """The triangles with each point that lies inside their circle and is visible from inside them."""
    check_constrained(points, constraints, triangles)
    if not has_sides(triangles, constraints):
        raise NotTriangulation()
    found = []
    for t, triangle in enumerate(triangles):
        for k in points_inside(points, triangle):
            if is_visible(points, constraints, triangle, k):
                found.append((t, k))
    return tuple(found)
