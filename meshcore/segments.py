"""What two segments have in common."""

from meshcore.points import check_each, lowest, ranking
from meshcore.turns import cross_row, on_segment, orient


def are_crossing(a, b, c, d):
    """What crosses tells, for points of any size."""
    if orient(a, b, c) * orient(a, b, d) >= 0:
        return False
    return orient(c, d, a) * orient(c, d, b) < 0


def ends_on_both(a, b, c, d):
    found = []
    for p in (a, b, c, d):
        if p not in found and on_segment(a, b, p) and on_segment(c, d, p):
            found.append(p)
    return [found[k] for k in ranking(found)]


def common_part(a, b, c, d):
    """What meeting tells, for points of any size."""
    if are_crossing(a, b, c, d):
        x, y, w = cross_row(cross_row(a, b), cross_row(c, d))
        return (lowest(x, y, w),)
    # without a crossing, each end of the common part is an end of a segment
    found = ends_on_both(a, b, c, d)
    if len(found) < 2:
        return tuple(found)
    return (found[0], found[-1])


def meeting(a, b, c, d):
    """The common part of the segments from a to b and from c to d: no point, one, or two ends."""
    check_each((a, b, c, d))
    return common_part(a, b, c, d)


def crosses(a, b, c, d):
    """Whether the segments have just one common point, an end of neither."""
    check_each((a, b, c, d))
    return are_crossing(a, b, c, d)
