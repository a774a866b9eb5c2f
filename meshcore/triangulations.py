"""Triangulations of point lists, and the flips that lead from one to another."""

from itertools import combinations

from meshcore.circles import in_circle
from meshcore.errors import BadEdge, Flat, NotTriangulation, TooFew, TooMany
from meshcore.exact import is_ascending, plus
from meshcore.hulls import hull_indexes
from meshcore.points import check_list
from meshcore.turns import doubled, edges_cross, orient, turn_table
from meshcore.walks import reached

MOST_POINTS = 20
MOST_MESHES = 2000


def is_flat(points):
    for item in points[2:]:
        if orient(points[0], points[1], item) != 0:
            return False
    return True


def check_mesh_points(points):
    check_list(points)
    if len(points) < 3:
        raise TooFew()
    if len(points) > MOST_POINTS:
        raise TooMany(MOST_POINTS)
    if is_flat(points):
        raise Flat()


def sides_with_rest(triangle):
    """The sides of a triangle, each with the remaining corner."""
    i, j, k = triangle
    return (((i, j), k), ((i, k), j), ((j, k), i))


def shape_flaw(table, many, value):
    if not isinstance(value, tuple):
        return ("shape", None)
    for k, item in enumerate(value):
        if not is_ascending(item, many) or len(item) != 3 or table[item] == 0:
            return ("shape", k)
        if k > 0 and item <= value[k - 1]:
            return ("shape", k)
    return None


def is_on_inside(table, triangle, at):
    """Whether a point that is no corner lies in a triangle or on its sides."""
    i, j, k = triangle
    inner = table[triangle]
    return min(table[i, j, at] * inner, table[j, k, at] * inner, table[k, i, at] * inner) >= 0


def point_inside(table, many, triangle):
    """The least index of a point in a triangle or on its sides, None if there is none."""
    for at in range(many):
        if at not in triangle and is_on_inside(table, triangle, at):
            return at
    return None


def point_flaw(table, many, triangles):
    for a, triangle in enumerate(triangles):
        at = point_inside(table, many, triangle)
        if at is not None:
            return ("point", a, at)
    return None


def is_beyond(table, side, rest, other):
    """Whether a triangle lies on the outer side of a side of another one."""
    i, j = side
    inner = table[i, j, rest]
    for at in other:
        if at not in side and table[i, j, at] == inner:
            return False
    return True


def are_apart(table, one, other):
    """Whether two triangles have no inner point in common: then a side of one parts them."""
    for side, rest in sides_with_rest(one):
        if is_beyond(table, side, rest, other):
            return True
    for side, rest in sides_with_rest(other):
        if is_beyond(table, side, rest, one):
            return True
    return False


def overlap_flaw(table, triangles):
    for a, one in enumerate(triangles):
        for b in range(a + 1, len(triangles)):
            if not are_apart(table, one, triangles[b]):
                return ("overlap", a, b)
    return None


def doubled_sum(points, triangles):
    """Twice the sum of the areas of triangles, their corners in any order."""
    total = (0, 1)
    for i, j, k in triangles:
        upper, lower = doubled(points[i], points[j], points[k])
        total = plus(total, (abs(upper), lower))
    return total


def gap_flaw(points, triangles):
    corners = hull_indexes(points)
    fan = [(corners[0], corners[k - 1], corners[k]) for k in range(2, len(corners))]
    if doubled_sum(points, triangles) != doubled_sum(points, fan):
        return ("gap",)
    return None


def flaw_of(points, table, value):
    """What triangulation_flaw tells, for points with a table of their turns."""
    many = len(points)
    found = shape_flaw(table, many, value)
    if found is not None:
        return found
    return point_flaw(table, many, value) or overlap_flaw(table, value) or gap_flaw(points, value)


def triangulation_flaw(points, value):
    """None for a triangulation, otherwise what is wrong first."""
    check_mesh_points(points)
    return flaw_of(points, turn_table(points), value)


def check_triangulation(points, table, value):
    if flaw_of(points, table, value) is not None:
        raise NotTriangulation()


def check_mesh(points, triangles):
    """The errors of points and a triangulation; returns the table of turns."""
    check_mesh_points(points)
    table = turn_table(points)
    check_triangulation(points, table, triangles)
    return table


def is_cut(table, triangle, edges):
    """Whether one of the edges crosses a side of a triangle."""
    for side, _ in sides_with_rest(triangle):
        for edge in edges:
            if edges_cross(table, side, edge):
                return True
    return False


def is_free(table, many, triangle, chosen):
    """Whether a triangle may stand beside the chosen ones."""
    if table[triangle] == 0 or point_inside(table, many, triangle) is not None:
        return False
    for other in chosen:
        if not are_apart(table, triangle, other):
            return False
    return True


def first_mesh(table, many, kept=()):
    """The triangulation that takes each triangle that it can take, in ascending order.

    It has the edges that are to be kept as sides."""
    # triangles without inner points that neither overlap nor are cut can always be completed
    chosen = []
    for triangle in combinations(range(many), 3):
        if is_free(table, many, triangle, chosen) and not is_cut(table, triangle, kept):
            chosen.append(triangle)
    return tuple(chosen)


def triangulate(points):
    """A triangulation of points."""
    check_mesh_points(points)
    return first_mesh(turn_table(points), len(points))


def rests_of_edges(triangles):
    """A dict of the edges, each with the list of the remaining corners of its triangles."""
    rests = {}
    for triangle in triangles:
        for side, rest in sides_with_rest(triangle):
            rests[side] = rests.get(side, []) + [rest]
    return rests


def inner_edges(triangles):
    """The ascending edges that are sides of two triangles, each with both remaining corners."""
    rests = rests_of_edges(triangles)
    return [(edge, rests[edge]) for edge in sorted(rests) if len(rests[edge]) == 2]


def is_flippable(table, edge, rest):
    # the two remaining corners lie on both sides of the edge already
    i, j = edge
    k, m = rest
    return table[k, m, i] * table[k, m, j] < 0


def edges_to_flip(table, triangles):
    """The ascending edges that can be flipped, each with both remaining corners."""
    return [(edge, rest) for edge, rest in inner_edges(triangles) if is_flippable(table, edge, rest)]


def triangle_of(edge, at):
    return tuple(sorted([edge[0], edge[1], at]))


def after_flip(triangles, edge, rest):
    gone = (triangle_of(edge, rest[0]), triangle_of(edge, rest[1]))
    kept = [triangle for triangle in triangles if triangle not in gone]
    return tuple(sorted(kept + [triangle_of(rest, edge[0]), triangle_of(rest, edge[1])]))


def all_flipped(table, triangles):
    return [after_flip(triangles, edge, rest) for edge, rest in edges_to_flip(table, triangles)]


def flippable(points, triangles):
    """The edges of a triangulation that can be flipped."""
    table = check_mesh(points, triangles)
    return tuple([edge for edge, _ in edges_to_flip(table, triangles)])


def flip(points, triangles, edge):
    """The triangulation after the flip of an edge."""
    table = check_mesh(points, triangles)
    if not is_ascending(edge, len(points)):
        raise BadEdge()
    for one, rest in edges_to_flip(table, triangles):
        if one == edge:
            return after_flip(triangles, edge, rest)
    raise BadEdge()


def all_triangulations(points):
    """All triangulations of points."""
    check_mesh_points(points)
    table = turn_table(points)
    return reached(first_mesh(table, len(points)), lambda triangles: all_flipped(table, triangles), MOST_MESHES)


def is_unsettled(points, edge, rest):
    """Whether an edge is illegal; of four points on a circle the least index keeps its edge."""
    # as if each point, raised to the height of its squared distance from the origin, were
    # lowered a bit, by far less than the one ahead: so there are no ties, each flip lowers
    # the surface, and all rows of flips end in the same triangulation
    i, j = edge
    k, m = rest
    inside = in_circle(points[i], points[j], points[k], points[m])
    if inside == 0:
        return min(k, m) < min(i, j)
    return inside > 0


def unsettled_edge(points, triangles, kept):
    for edge, rest in inner_edges(triangles):
        if edge not in kept and is_unsettled(points, edge, rest):
            return (edge, rest)
    return None


def settled(points, triangles, kept=()):
    """The same triangulation for all given ones, and the flips to it as pairs (gone, come).

    Edges that are to be kept are not flipped."""
    # an edge that is gone never comes back: there are at most n * (n - 1) / 2 flips
    steps = []
    found = unsettled_edge(points, triangles, kept)
    while found is not None:
        edge, rest = found
        triangles = after_flip(triangles, edge, rest)
        steps.append((edge, tuple(sorted(rest))))
        found = unsettled_edge(points, triangles, kept)
    return (triangles, steps)


def flip_path(points, one, other):
    """Edges that, flipped one after the other, lead from one triangulation to another."""
    table = check_mesh(points, one)
    check_triangulation(points, table, other)
    _, there = settled(points, one)
    _, back = settled(points, other)
    return tuple([gone for gone, _ in there] + [come for _, come in back[::-1]])
