"""Polygons cut by diagonals, into triangles or into convex pieces."""

from itertools import combinations

from meshcore.errors import NotCutting, TooMany
from meshcore.exact import is_ascending
from meshcore.points import middle
from meshcore.polygons import check_polygon, edges_of, side_of
from meshcore.segments import common_part
from meshcore.triangulations import rests_of_edges, triangle_of
from meshcore.turns import orient

MOST_CORNERS = 12


def check_few_corners(polygon):
    check_polygon(polygon)
    if len(polygon) > MOST_CORNERS:
        raise TooMany(MOST_CORNERS)


def meets_edge(polygon, a, b):
    """Whether a segment between two corners has a point on an edge that is not an end."""
    for c, d in edges_of(polygon):
        for p in common_part(a, b, c, d):
            if p not in (a, b):
                return True
    return False


def is_diagonal(polygon, i, j):
    """Whether the segment between two corners that are not neighbours is a diagonal."""
    a, b = polygon[i], polygon[j]
    # what meets no edge on the way lies inside or outside as a whole
    return not meets_edge(polygon, a, b) and side_of(polygon, middle(a, b)) == 1


def borders_of(many):
    """The pairs of neighbouring corners."""
    return [(k, k + 1) for k in range(many - 1)] + [(0, many - 1)]


def diagonals_of(polygon):
    """The ascending list of the diagonals."""
    borders = borders_of(len(polygon))
    pairs = list(combinations(range(len(polygon)), 2))
    return [(i, j) for i, j in pairs if (i, j) not in borders and is_diagonal(polygon, i, j)]


def are_crossed(one, other):
    """Whether two diagonals cross: each one parts the corners in two groups."""
    i, j = one
    k, m = other
    return i < k < j < m or k < i < m < j


def fits(diagonal, others):
    """Whether a diagonal crosses none of others."""
    return [other for other in others if are_crossed(diagonal, other)] == []


def are_apart(polygon, value):
    """Whether a value is a strictly ascending tuple of diagonals, no two of which cross."""
    if not isinstance(value, tuple):
        return False
    found = diagonals_of(polygon)
    for k, item in enumerate(value):
        if not is_ascending(item, len(polygon)) or item not in found:
            return False
        if k > 0 and item <= value[k - 1]:
            return False
        if not fits(item, value[:k]):
            return False
    return True


def is_whole_cutting(polygon, value):
    """What is_cutting tells, for a polygon."""
    return are_apart(polygon, value) and len(value) == len(polygon) - 3


def check_cutting(polygon, value):
    check_few_corners(polygon)
    if not is_whole_cutting(polygon, value):
        raise NotCutting()


def diagonals(polygon):
    """The diagonals of a polygon."""
    check_few_corners(polygon)
    return tuple(diagonals_of(polygon))


def cutting(polygon):
    """Diagonals that do not cross and to which none can be added."""
    check_few_corners(polygon)
    found = []
    for diagonal in diagonals_of(polygon):
        if fits(diagonal, found):
            found.append(diagonal)
    return tuple(found)


def is_cutting(polygon, value):
    """Whether a value is a cutting of a polygon."""
    check_few_corners(polygon)
    return is_whole_cutting(polygon, value)


def parts_by_width(many):
    """All pairs of corners, those with fewer corners between them first."""
    return [(i, i + width) for width in range(1, many) for i in range(many - width)]


def cutting_count(polygon):
    """The number of cuttings of a polygon."""
    check_few_corners(polygon)
    many = len(polygon)
    links = borders_of(many) + diagonals_of(polygon)
    counts = {}
    # how often the part between i and j is cut: the triangle at their side has a third corner k
    for i, j in parts_by_width(many):
        counts[i, j] = 0
        if (i, j) in links:
            counts[i, j] = sum([counts[i, k] * counts[k, j] for k in range(i + 1, j)])
        if j == i + 1:
            counts[i, j] = 1
    return counts[0, many - 1]


def ears(polygon, value):
    """The corners at which no diagonal of a cutting ends."""
    check_cutting(polygon, value)
    ends = [at for diagonal in value for at in diagonal]
    return tuple([at for at in range(len(polygon)) if at not in ends])


def triangles_of(many, value):
    """The triangles that a cutting leaves."""
    links = borders_of(many) + list(value)
    triples = list(combinations(range(many), 3))
    return [(i, j, k) for i, j, k in triples if (i, j) in links and (i, k) in links and (j, k) in links]


def tree_of(polygon, value):
    """The pairs of triangles of a cutting that have a diagonal in common."""
    check_cutting(polygon, value)
    rests = rests_of_edges(triangles_of(len(polygon), value))
    found = []
    for diagonal in value:
        one, other = [triangle_of(diagonal, at) for at in rests[diagonal]]
        found.append((min(one, other), max(one, other)))
    return tuple(sorted(found))


def ends_around(many, value, at):
    """The other ends of the edges and diagonals at a corner, counterclockwise, the next corner first."""
    links = borders_of(many) + list(value)
    around = [(at + step) % many for step in range(1, many)]
    return [other for other in around if (min(at, other), max(at, other)) in links]


def is_convex_at(polygon, value, at):
    """Whether all angles at a corner are at most a half turn."""
    ends = ends_around(len(polygon), value, at)
    for one, other in zip(ends[:-1], ends[1:]):
        if orient(polygon[at], polygon[one], polygon[other]) < 0:
            return False
    return True


def are_pieces(polygon, value):
    """Whether a value is diagonals that do not cross and cut a polygon into convex parts."""
    check_few_corners(polygon)
    if not are_apart(polygon, value):
        return False
    for at in range(len(polygon)):
        if not is_convex_at(polygon, value, at):
            return False
    return True


def is_convex(corners):
    many = len(corners)
    for k in range(many):
        if orient(corners[k - 2], corners[k - 1], corners[k]) < 0:
            return False
    return True


def borders_beside(polygon, links, i, j):
    """The rows of corners from i to j, corners between them included, that a convex piece may have."""
    found = []
    for size in range(1, j - i):
        for inner in combinations(range(i + 1, j), size):
            row = [i] + list(inner) + [j]
            sides = list(zip(row[:-1], row[1:]))
            if [side for side in sides if side not in links] == [] and is_convex([polygon[k] for k in row]):
                found.append(sides)
    return found


def least_cut(polygon, best, links, i, j):
    """The fewest diagonals that cut the part between i and j into convex pieces, i and j joined already."""
    found = None
    for sides in borders_beside(polygon, links, i, j):
        inner = []
        for side in sides:
            inner += best[side]
            if side[1] - side[0] > 1:
                inner.append(side)
        if found is None or len(inner) < len(found):
            found = inner
    return found


def fewest_pieces(polygon):
    """The fewest diagonals that cut a polygon into convex pieces."""
    check_few_corners(polygon)
    many = len(polygon)
    links = borders_of(many) + diagonals_of(polygon)
    best = {}
    for i, j in parts_by_width(many):
        if j == i + 1:
            best[i, j] = []
        elif (i, j) in links:
            best[i, j] = least_cut(polygon, best, links, i, j)
    return tuple(sorted(best[0, many - 1]))
