"""Lines, the duality of points and lines, levels of lines."""

from itertools import combinations

from meshcore.errors import BadLine, BadLines, BadNumber
from meshcore.exact import is_ratio, is_whole, ratio, sign
from meshcore.points import check_each, lowest, ranking

MOST_LINES = 20


def is_line(value):
    if not isinstance(value, tuple) or len(value) != 2:
        return False
    return is_ratio(value[0]) and is_ratio(value[1])


def check_line(value):
    if not is_line(value):
        raise BadLine()


def check_lines(value):
    if not isinstance(value, tuple) or not 1 <= len(value) <= MOST_LINES:
        raise BadLines(None)
    seen = {}
    for k, item in enumerate(value):
        if not is_line(item) or item[0] in seen:
            raise BadLines(k)
        seen[item[0]] = True


def height(line, p):
    """What above tells, for points of any size."""
    (m, n), (k, d) = line
    x, y, w = p
    return sign(y * n * d - m * x * d - k * w * n)


def above(line, p):
    """1 if a point lies above a line, 0 if on it, -1 if below."""
    check_line(line)
    check_each((p,))
    return height(line, p)


def dual_of_point(p):
    """The line (a, -b) of the point with the coordinates a and b."""
    check_each((p,))
    return (ratio(p[0], p[2]), ratio(-p[1], p[2]))


def dual_of_line(line):
    """The point with the coordinates m and -k of the line (m, k)."""
    check_line(line)
    (m, n), (k, d) = line
    return lowest(m * d, -k * n, n * d)


def common_of_lines(one, other):
    """The point in which two lines with different m meet."""
    (m, n), (k, d) = one
    (u, v), (s, t) = other
    # x is what the heights at 0 differ by, over what the slopes differ by
    slope = (m * v - u * n) * d * t
    rise = (s * d - k * t) * n * v
    return lowest(rise * n * d, m * rise * d + k * slope * n, slope * n * d)


def level_corners(lines, k):
    """The points in which lines meet with exactly k of the lines below them."""
    check_lines(lines)
    if not is_whole(k) or not 0 <= k <= MOST_LINES:
        raise BadNumber()
    found = {}
    for one, other in combinations(list(lines), 2):
        p = common_of_lines(one, other)
        if p not in found and [height(line, p) for line in lines].count(1) == k:
            found[p] = True
    corners = list(found)
    return tuple([corners[at] for at in ranking(corners)])
