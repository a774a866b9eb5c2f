"""Hulls of point lists, with a certificate for each point inside or outside."""

from meshcore.exact import are_numbers, is_ascending, is_less, is_ratio, plus, ratio, times
from meshcore.points import check_each, check_list, ranking, way
from meshcore.turns import determinant, on_segment, orient


def chain(points, indexes):
    """The left border of the hull on the way along ascending points, or on the way back."""
    found = []
    for k in indexes:
        while len(found) > 1 and orient(points[found[-2]], points[found[-1]], points[k]) <= 0:
            found.pop()
        found.append(k)
    return found


def hull_indexes(points):
    """The indexes of the corners of the hull, counterclockwise, the least point first."""
    row = ranking(points)
    if len(row) == 1:
        return row
    return chain(points, row)[:-1] + chain(points, row[::-1])[:-1]


def hull(points):
    """The corners of the hull, counterclockwise, the least point first."""
    check_list(points)
    return tuple([points[k] for k in hull_indexes(points)])


def fans(corners):
    """Groups of at most three corners whose hulls fill the hull."""
    if len(corners) < 3:
        return [corners]
    return [[corners[0], corners[k - 1], corners[k]] for k in range(2, len(corners))]


def segment_weights(a, b, p):
    """The weights of a and b that give p, which lies on the line through them."""
    at = 0
    if a[0] * b[2] == b[0] * a[2]:
        at = 1
    here = (p[at] * b[2] - b[at] * p[2]) * a[2]
    one = ratio(here, (a[at] * b[2] - b[at] * a[2]) * p[2])
    return [one, ratio(one[1] - one[0], one[1])]


def triangle_weights(a, b, c, p):
    """The weights of the corners of a triangle that give p."""
    whole = determinant(a, b, c) * p[2]
    return [
        ratio(determinant(p, b, c) * a[2], whole),
        ratio(determinant(a, p, c) * b[2], whole),
        ratio(determinant(a, b, p) * c[2], whole),
    ]


def group_weights(group, p):
    """The weights of the points of a group that give p, None if there are none."""
    if len(group) == 1:
        if group[0] == p:
            return [(1, 1)]
        return None
    if len(group) == 2:
        if on_segment(group[0], group[1], p):
            return segment_weights(group[0], group[1], p)
        return None
    weights = triangle_weights(group[0], group[1], group[2], p)
    if min([one[0] for one in weights]) < 0:
        return None
    return weights


def mixture(group, weights):
    """A mixture has weights above 0 only, its indexes in ascending order."""
    rows = sorted([(k, one) for k, one in zip(group, weights) if one[0] > 0])
    return ("in", tuple([row[0] for row in rows]), tuple([row[1] for row in rows]))


def barrier_along(points, p, u, v):
    """The barrier with the direction u, v, None if p is not beyond all points there."""
    most = None
    for x, y, w in points:
        height = ratio(u * x + v * y, w)
        if most is None or is_less(most, height):
            most = height
    if is_less(most, ratio(u * p[0] + v * p[1], p[2])):
        return ("out", u * most[1], v * most[1], most[0])
    return None


def barrier(points, corners, p):
    """A barrier for a point outside."""
    # the nearest point of the hull is a corner or lies inside a side:
    # the way from there to p is a barrier's direction
    directions = []
    for k, corner in enumerate(corners):
        u, v = way(points[corners[k - 1]], points[corner])
        directions.extend([(v, -u), (-v, u), way(points[corner], p)])
    for u, v in directions:
        found = barrier_along(points, p, u, v)
        if found is not None:
            return found
    return None


def mixture_of(points, corners, p):
    """A mixture of corners of the hull, None for a point outside."""
    for group in fans(corners):
        weights = group_weights([points[k] for k in group], p)
        if weights is not None:
            return mixture(group, weights)
    return None


def is_in_hull(points, p):
    """Whether p lies in the hull, for points of any size."""
    return mixture_of(points, hull_indexes(points), p) is not None


def locate(points, p):
    """What locate_in_hull tells, for points of any size."""
    corners = hull_indexes(points)
    return mixture_of(points, corners, p) or barrier(points, corners, p)


def locate_in_hull(points, p):
    """A mixture of p if it lies in the hull, otherwise a barrier."""
    check_list(points)
    check_each((p,))
    return locate(points, p)


def are_weights(value, many):
    """Whether a value is a tuple of so many ratios above 0 with the sum 1."""
    if not isinstance(value, tuple) or len(value) != many:
        return False
    total = (0, 1)
    for one in value:
        if not is_ratio(one) or one[0] <= 0:
            return False
        total = plus(total, one)
    return total == (1, 1)


def blend(points, indexes, weights, at):
    """The sum of weight times coordinate."""
    total = (0, 1)
    for k, one in zip(indexes, weights):
        total = plus(total, times(one, ratio(points[k][at], points[k][2])))
    return total


def is_mixture(points, p, indexes, weights):
    if not is_ascending(indexes, len(points)) or len(indexes) > 3:
        return False
    if not are_weights(weights, len(indexes)):
        return False
    for at in (0, 1):
        if blend(points, indexes, weights, at) != ratio(p[at], p[2]):
            return False
    return True


def is_barrier(points, p, u, v, s):
    if not are_numbers((u, v, s), 3):
        return False
    for x, y, w in points:
        if u * x + v * y > s * w:
            return False
    return u * p[0] + v * p[1] > s * p[2]


def shows(points, p, value):
    """What shows_in_hull tells, for points of any size."""
    if not isinstance(value, tuple) or len(value) < 3:
        return False
    if value[0] == "in" and len(value) == 3:
        return is_mixture(points, p, value[1], value[2])
    if value[0] == "out" and len(value) == 4:
        return is_barrier(points, p, value[1], value[2], value[3])
    return False


def shows_in_hull(points, p, value):
    """Whether a value is a mixture or a barrier of p."""
    check_list(points)
    check_each((p,))
    return shows(points, p, value)
