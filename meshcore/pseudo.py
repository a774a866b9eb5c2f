"""Pointed pseudo-triangulations, their faces and the replacements of their edges."""

from itertools import combinations

from meshcore.errors import BadEdge, NotPointed, NotPseudo
from meshcore.exact import is_ascending
from meshcore.pointed import check_edge_set, check_few, ends_at, is_plane_pointed, is_pointed_at
from meshcore.polygons import doubled_area
from meshcore.turns import edges_cross, turn_table
from meshcore.walks import reached

MOST_SETS = 2000


def is_full(table, many, edges):
    """What is_pseudo tells, for points with a table of their turns."""
    return len(edges) == 2 * many - 3 and is_plane_pointed(table, many, edges)


def is_pseudo(points, edges):
    """Whether an edge set is a pseudo-triangulation."""
    table = check_edge_set(points, edges)
    return is_full(table, len(points), edges)


def check_pseudo(points, edges):
    """The errors of points and a pseudo-triangulation; returns the table of turns."""
    table = check_edge_set(points, edges)
    if not is_full(table, len(points), edges):
        raise NotPseudo()
    return table


def all_edges(many):
    return list(combinations(range(many), 2))


def crossed_edges(table, many):
    """A dict of all edges, each with a dict of the edges that cross it."""
    pairs = all_edges(many)
    return {one: {two: True for two in pairs if edges_cross(table, one, two)} for one in pairs}


def can_stand(table, crossed, edges, new):
    """Whether a pointed edge set without crossings stays so when an edge is added."""
    for edge in edges:
        if edge in crossed[new]:
            return False
    for at, other in (new, new[::-1]):
        if not is_pointed_at(table, at, ends_at(edges, at) + [other]):
            return False
    return True


def filled(table, many, edges):
    """The edges and all others that can stand beside them, tried in ascending order."""
    # an edge that cannot be added once cannot be added later: one round is enough
    crossed = crossed_edges(table, many)
    found = list(edges)
    for new in all_edges(many):
        if new not in edges and can_stand(table, crossed, found, new):
            found.append(new)
    return tuple(sorted(found))


def completed(points, edges):
    """A pseudo-triangulation with all the given edges."""
    table = check_edge_set(points, edges)
    if not is_plane_pointed(table, len(points), edges):
        raise NotPointed()
    return filled(table, len(points), edges)


def next_corner(table, edges, i, j):
    """The corner behind j on the way around the face to the left of the way from i to j."""
    # it is the first end met clockwise around j, from i on: an end to the left comes
    # ahead of those to the right, and on one side all others turn right from it
    best = i
    for k in ends_at(edges, j):
        if k == i:
            continue
        if best == i or table[i, j, k] > table[i, j, best]:
            best = k
        elif table[i, j, k] == table[i, j, best] and table[j, best, k] > 0:
            best = k
    return best


def face_from(table, edges, i, j):
    """The corners around the face to the left of the way from i to j."""
    found = [i]
    before, here = i, j
    while here != i:
        found.append(here)
        before, here = here, next_corner(table, edges, before, here)
    return tuple(found)


def pseudo_triangles(points, edges):
    """The bounded faces of a pseudo-triangulation, each counterclockwise from its least corner."""
    table = check_pseudo(points, edges)
    found = []
    for i, j in edges:
        face = face_from(table, edges, i, j)
        # each face is found once like this, from its least corner; only the outer one is clockwise
        if i == min(face) and doubled_area([points[k] for k in face])[0] > 0:
            found.append(face)
    return tuple(sorted(found))


def is_hull_edge(table, many, edge):
    i, j = edge
    sides = [table[i, j, k] for k in range(many) if k not in edge]
    return sides == [] or min(sides) == max(sides)


def partner_of(table, crossed, edges, edge):
    """What partner tells, for a table of turns and what crossed_edges tells."""
    rest = [one for one in edges if one != edge]
    for new in crossed:
        if new not in edges and can_stand(table, crossed, rest, new):
            return new
    return None


def partner(points, edges, edge):
    """The only other edge by which an inner edge of a pseudo-triangulation can be replaced."""
    table = check_pseudo(points, edges)
    many = len(points)
    if not is_ascending(edge, many) or edge not in edges or is_hull_edge(table, many, edge):
        raise BadEdge()
    return partner_of(table, crossed_edges(table, many), edges, edge)


def replaced(edges, edge, new):
    return tuple(sorted([one for one in edges if one != edge] + [new]))


def replacements(table, crossed, many, edges):
    """The pseudo-triangulations that differ from one in one edge."""
    inner = [edge for edge in edges if not is_hull_edge(table, many, edge)]
    return [replaced(edges, edge, partner_of(table, crossed, edges, edge)) for edge in inner]


def all_pseudo(points):
    """All pseudo-triangulations of points."""
    check_few(points)
    many = len(points)
    table = turn_table(points)
    crossed = crossed_edges(table, many)
    return reached(filled(table, many, ()), lambda edges: replacements(table, crossed, many, edges), MOST_SETS)
