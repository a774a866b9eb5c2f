"""Meshes with more points: pieces of constraints with clear circles, triangles without small angles."""

from itertools import combinations

from meshcore.circles import center_of, disk_side, in_circle
from meshcore.constrained import check_constraints, mesh_along
from meshcore.errors import BadBound, BadNumber, TooMany
from meshcore.exact import is_less, is_ratio, is_whole, times
from meshcore.hulls import hull_indexes
from meshcore.points import gap2, middle, ranking
from meshcore.triangulations import first_mesh, rests_of_edges
from meshcore.turns import on_segment, orient, turn_table

MOST_ADDED = 40


def check_bound(bound):
    if not is_ratio(bound) or is_less(bound, (2, 1)):
        raise BadBound()


def check_most(most):
    if not is_whole(most) or not 0 <= most <= MOST_ADDED:
        raise BadNumber()


def least_around(points, pieces, spots):
    """The least piece whose circle, with the piece as diameter, has one of the spots strictly inside."""
    for i, j in pieces:
        if 1 in [disk_side(points[i], points[j], p) for p in spots]:
            return (i, j)
    return None


def middle_of(points, piece):
    return middle(points[piece[0]], points[piece[1]])


def halved(pieces, piece, new):
    """The pieces, ascending, with two halves instead of one piece; they meet in the point with the index new."""
    i, j = piece
    return sorted([one for one in pieces if one != piece] + [(i, new), (j, new)])


def check_room(points, longer, most):
    """The error if one more point would be too many."""
    if len(longer) == len(points) + most:
        raise TooMany(most)


def conforming(points, constraints, most):
    """The points and pieces after constraints are split until the circles of all pieces are clear."""
    check_constraints(points, constraints)
    check_most(most)
    longer = list(points)
    pieces = list(constraints)
    piece = least_around(longer, pieces, longer)
    while piece is not None:
        check_room(points, longer, most)
        pieces = halved(pieces, piece, len(longer))
        longer.append(middle_of(longer, piece))
        piece = least_around(longer, pieces, longer)
    return (tuple(longer), tuple(pieces))


def border_edges(points):
    """The edges between neighbouring points on the border of the hull."""
    corners = hull_indexes(points)
    row = ranking(points)
    found = []
    for k, corner in enumerate(corners):
        a, b = points[corners[k - 1]], points[corner]
        there = [at for at in row if on_segment(a, b, points[at])]
        found.extend([(min(i, j), max(i, j)) for i, j in zip(there[:-1], there[1:])])
    return found


def with_point(points, triangles, new):
    """Triangles without points inside their circles, after one more point that lies in the hull."""
    # A. Bowyer, D. Watson: the triangles with the point inside their circles fill a star around it
    p = points[new]
    gone = [(i, j, k) for i, j, k in triangles if in_circle(points[i], points[j], points[k], p) > 0]
    rests = rests_of_edges(gone)
    # an edge of the hull may have the point on it
    sides = [(i, j) for i, j in rests if len(rests[i, j]) == 1 and orient(points[i], points[j], p) != 0]
    return [triangle for triangle in triangles if triangle not in gone] + [(i, j, new) for i, j in sides]


def rounds_of(points, triangles):
    """A dict of the centers of the triangles' circles, each with the ascending indexes of the points there."""
    # a circle without points inside that has more than three points on it is that of several triangles
    found = {}
    for i, j, k in triangles:
        center = center_of(points[i], points[j], points[k])
        before = found.get(center, [])
        found[center] = sorted(before + [at for at in (i, j, k) if at not in before])
    return found


def is_bad(points, triple, square, bound):
    """Whether a squared radius is greater than bound times the least squared distance of three points."""
    for i, j in combinations(list(triple), 2):
        if is_less(times(bound, gap2(points[i], points[j])), square):
            return True
    return False


def least_bad(points, rounds, bound):
    """The least triple that is bad for the circle through its points, None if there is none."""
    best = None
    for center in rounds:
        there = rounds[center]
        square = gap2(center, points[there[0]])
        for triple in combinations(there, 3):
            if (best is None or triple < best) and is_bad(points, triple, square, bound):
                best = triple
    return best


def next_step(points, pieces, triangles, bound):
    """The piece to be split, or None, and the next point, None if there is nothing left to do."""
    piece = least_around(points, pieces, points)
    if piece is not None:
        return (piece, middle_of(points, piece))
    triple = least_bad(points, rounds_of(points, triangles), bound)
    if triple is None:
        return (None, None)
    center = center_of(points[triple[0]], points[triple[1]], points[triple[2]])
    piece = least_around(points, pieces, [center])
    if piece is not None:
        return (piece, middle_of(points, piece))
    return (None, center)


def mesh_on(points, there, pieces):
    """Triangles between points on a circle that have all pieces between these points as sides."""
    inner = [(there.index(i), there.index(j)) for i, j in pieces if i in there and j in there]
    table = turn_table([points[k] for k in there])
    return [(there[i], there[j], there[k]) for i, j, k in first_mesh(table, len(there), inner)]


def mesh_of(points, triangles, pieces):
    """The triangles, in circles of more than three points others of them that have all pieces as sides."""
    # no piece has a point strictly inside its circle: so it crosses no side but in a circle of more points
    rounds = rounds_of(points, triangles)
    found = []
    for center in rounds:
        found.extend(mesh_on(points, rounds[center], pieces))
    return tuple(sorted(found))


def refined(points, constraints, bound, most):
    """The points, the pieces and a triangulation after points are added until no triple is bad."""
    table = check_constraints(points, constraints)
    check_bound(bound)
    check_most(most)
    longer = list(points)
    pieces = sorted(list(constraints) + [edge for edge in border_edges(points) if edge not in constraints])
    triangles = list(mesh_along(points, table, ()))
    piece, new = next_step(longer, pieces, triangles, bound)
    while new is not None:
        check_room(points, longer, most)
        if piece is not None:
            pieces = halved(pieces, piece, len(longer))
        longer.append(new)
        triangles = with_point(longer, triangles, len(longer) - 1)
        piece, new = next_step(longer, pieces, triangles, bound)
    return (tuple(longer), tuple(pieces), mesh_of(longer, triangles, pieces))
