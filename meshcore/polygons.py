"""Polygons: their flaws, their area, points inside and on them."""

from math import gcd

from meshcore.errors import BadPolygon, NotLattice, TooMany
from meshcore.exact import plus, times
from meshcore.points import LONGEST, check_each, is_point
from meshcore.segments import common_part
from meshcore.turns import doubled, on_segment, orient

MOST_LATTICE = 10000


def shape_flaw(value):
    if not isinstance(value, tuple) or not 3 <= len(value) <= LONGEST:
        return ("shape", None)
    for k, item in enumerate(value):
        if not is_point(item):
            return ("shape", k)
    return None


def equal_flaw(corners):
    for i, one in enumerate(corners):
        for j in range(i + 1, len(corners)):
            if corners[j] == one:
                return ("equal", i, j)
    return None


def straight_flaw(corners):
    many = len(corners)
    for i in range(many):
        if orient(corners[i - 1], corners[i], corners[(i + 1) - many]) == 0:
            return ("straight", i)
    return None


def edges_of(corners):
    """The edges as pairs of points, each at the index of the corner where it begins."""
    return [(one, corners[k + 1 - len(corners)]) for k, one in enumerate(corners)]


def meeting_flaw(corners):
    # successive edges are not on a line here, so they meet in their common corner only
    edges = edges_of(corners)
    for i, (a, b) in enumerate(edges):
        for j in range(i + 2, len(edges)):
            c, d = edges[j]
            if d != a and common_part(a, b, c, d) != ():
                return ("meeting", i, j)
    return None


def doubled_area(corners):
    """Twice the area, above 0 if the corners are counterclockwise."""
    total = (0, 1)
    for k in range(2, len(corners)):
        total = plus(total, doubled(corners[0], corners[k - 1], corners[k]))
    return total


def order_flaw(corners):
    if doubled_area(corners)[0] < 0:
        return ("clockwise",)
    return None


def polygon_flaw(value):
    """None for a polygon, otherwise what is wrong first."""
    found = shape_flaw(value)
    if found is not None:
        return found
    return equal_flaw(value) or straight_flaw(value) or meeting_flaw(value) or order_flaw(value)


def check_polygon(value):
    if polygon_flaw(value) is not None:
        raise BadPolygon()


def area(polygon):
    """The area of a polygon."""
    check_polygon(polygon)
    return times(doubled_area(polygon), (1, 2))


def is_below(a, p):
    """Whether a is not higher than p."""
    return a[1] * p[2] <= p[1] * a[2]


def side_of(polygon, p):
    """What side tells, for a polygon with points of any size."""
    rounds = 0
    for a, b in edges_of(polygon):
        if on_segment(a, b, p):
            return 0
        # edges that pass p on its right, up or down
        if is_below(a, p) and not is_below(b, p) and orient(a, b, p) > 0:
            rounds += 1
        if is_below(b, p) and not is_below(a, p) and orient(a, b, p) < 0:
            rounds -= 1
    if rounds == 0:
        return -1
    return 1


def side(polygon, p):
    """1 if p lies inside, 0 if on an edge, otherwise -1."""
    check_polygon(polygon)
    check_each((p,))
    return side_of(polygon, p)


def rectangle_count(polygon):
    """How many points with integer coordinates the smallest rectangle around the polygon has."""
    many = 1
    for at in (0, 1):
        row = [corner[at] for corner in polygon]
        many = many * (max(row) - min(row) + 1)
    return many


def lattice_counts(polygon):
    """The numbers of points with integer coordinates inside and on the edges."""
    check_polygon(polygon)
    for corner in polygon:
        if corner[2] != 1:
            raise NotLattice()
    if rectangle_count(polygon) > MOST_LATTICE:
        raise TooMany(MOST_LATTICE)
    on = 0
    for a, b in edges_of(polygon):
        on += gcd(b[0] - a[0], b[1] - a[1])
    # Pick: twice the area is twice the number inside, plus the number on the edges, less 2
    return ((doubled_area(polygon)[0] - on + 2) // 2, on)
