"""Stresses of edge sets, Laman's counts, velocities at which pseudo-triangulations spread."""

from itertools import combinations

from meshcore.errors import BadEdge
from meshcore.exact import are_numbers, is_ascending, ratio
from meshcore.linear import null_row, product_of
from meshcore.pointed import check_edge_set
from meshcore.points import on_grid
from meshcore.pseudo import check_pseudo, is_hull_edge


def edge_row(places, i, j, many):
    """The numbers of an edge, two for each point: the way from i to j at point j, its opposite at i."""
    row = [0] * many
    for at in (0, 1):
        step = places[j][at] - places[i][at]
        row[2 * i + at] = -step
        row[2 * j + at] = step
    return row


def rigidity_rows(points, edges):
    """The rows of all edges; the ways are the true ones times a common number."""
    _, places = on_grid(points)
    return [edge_row(places, i, j, 2 * len(points)) for i, j in edges]


def columns_of(rows):
    return [list(column) for column in zip(*rows)]


def stress(points, edges):
    """A stress of an edge set, None if there is none."""
    check_edge_set(points, edges)
    found = null_row(columns_of(rigidity_rows(points, edges)), len(edges))
    if found is None:
        return None
    return tuple(found)


def is_row(value, many):
    """Whether a value is a tuple of so many integers that are not all 0."""
    return are_numbers(value, many) and list(value) != [0] * many


def shows_stress(points, edges, value):
    """Whether a value is a stress of an edge set."""
    check_edge_set(points, edges)
    if not is_row(value, len(edges)):
        return False
    for column in columns_of(rigidity_rows(points, edges)):
        if product_of(column, value) != 0:
            return False
    return True


def count_among(edges, some):
    return len([1 for i, j in edges if i in some and j in some])


def laman_flaw(points, edges):
    """None if the edges are as many as make points rigid, and nowhere too many."""
    check_edge_set(points, edges)
    many = len(points)
    if len(edges) != 2 * many - 3:
        return ("count",)
    for size in range(2, many + 1):
        for some in combinations(range(many), size):
            if count_among(edges, some) > 2 * size - 3:
                return ("crowd", some)
    return None


def pinned_rows(places, edge, many):
    """Equations: the first end of an edge does not move, the second one so much times its way."""
    i, j = edge
    rows = []
    for at in (0, 1):
        still = [0] * (many + 1)
        still[2 * i + at] = 1
        moved = [0] * (many + 1)
        moved[2 * j + at] = 1
        moved[many] = places[i][at] - places[j][at]
        rows.extend([still, moved])
    return rows


def opening(points, edges, edge):
    """The velocities at which a pseudo-triangulation opens at an edge of the hull."""
    table = check_pseudo(points, edges)
    if not is_ascending(edge, len(points)) or edge not in edges or not is_hull_edge(table, len(points), edge):
        raise BadEdge()
    common, places = on_grid(points)
    many = 2 * len(points)
    rows = [row + [0] for row in rigidity_rows(points, [one for one in edges if one != edge])]
    # the last number is how many times the way the second end has moved
    found = null_row(rows + pinned_rows(places, edge, many), many + 1)
    lower = found[many] * common
    return tuple([(ratio(found[2 * k], lower), ratio(found[2 * k + 1], lower)) for k in range(len(points))])
