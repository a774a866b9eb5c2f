"""Edge sets: their crossings, and the points at which they are pointed."""

from itertools import combinations

from meshcore.errors import BadEdges, TooFew, TooMany
from meshcore.exact import is_ascending
from meshcore.points import check_list
from meshcore.turns import check_general, edges_cross, turn_table

MOST_POINTS = 12


def check_few(points):
    check_list(points)
    if len(points) < 2:
        raise TooFew()
    if len(points) > MOST_POINTS:
        raise TooMany(MOST_POINTS)
    check_general(points)


def check_edges(value, many):
    if not isinstance(value, tuple):
        raise BadEdges(None)
    for k, item in enumerate(value):
        if not is_ascending(item, many) or len(item) != 2:
            raise BadEdges(k)
        if k > 0 and item <= value[k - 1]:
            raise BadEdges(k)


def check_edge_set(points, edges):
    """The errors of points and an edge set; returns the table of turns."""
    check_few(points)
    check_edges(edges, len(points))
    return turn_table(points)


def least_crossing(table, edges):
    for a, b in combinations(range(len(edges)), 2):
        if edges_cross(table, edges[a], edges[b]):
            return (a, b)
    return None


def crossing_edges(points, edges):
    """The least pair of indexes of edges that cross, None if no two do."""
    table = check_edge_set(points, edges)
    return least_crossing(table, edges)


def ends_at(edges, at):
    """The other ends of the edges at a point."""
    return [i + j - at for i, j in edges if at in (i, j)]


def is_pointed_at(table, at, ends):
    """Whether the edges from a point to these ends lie strictly on one side of a line."""
    # then one of them comes first, counterclockwise, and all others turn left from it
    for one in ends:
        if min([table[at, one, other] for other in ends if other != one], default=1) > 0:
            return True
    return len(ends) == 0


def unpointed_at(table, many, edges):
    return [at for at in range(many) if not is_pointed_at(table, at, ends_at(edges, at))]


def unpointed(points, edges):
    """The points at which an edge set is not pointed."""
    table = check_edge_set(points, edges)
    return tuple(unpointed_at(table, len(points), edges))


def is_plane_pointed(table, many, edges):
    """What is_pointed tells, for points with a table of their turns."""
    return least_crossing(table, edges) is None and unpointed_at(table, many, edges) == []


def is_pointed(points, edges):
    """Whether no two edges cross and the set is pointed at every point."""
    table = check_edge_set(points, edges)
    return is_plane_pointed(table, len(points), edges)
