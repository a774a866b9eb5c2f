"""Points that several parts of a list have in common, and points deep in a list."""

from itertools import combinations

from meshcore.errors import TooFew, TooMany
from meshcore.exact import is_ascending
from meshcore.hulls import group_weights, is_in_hull
from meshcore.points import check_each, check_list, is_lowest, way
from meshcore.segments import are_crossing, common_part
from meshcore.turns import orient

MOST_DEEP = 12


def crossings(points):
    """The points in which segments between points cross."""
    sides = list(combinations(list(points), 2))
    found = {}
    for (a, b), (c, d) in combinations(sides, 2):
        if are_crossing(a, b, c, d):
            found[common_part(a, b, c, d)[0]] = True
    return list(found)


def is_in_group(group, p):
    # a triangle that is flat has nothing that its sides do not have
    if len(group) == 3 and orient(group[0], group[1], group[2]) == 0:
        return False
    return group_weights(group, p) is not None


def groups_around(points, p):
    """The groups of at most three indexes of points whose hulls have p."""
    found = []
    for many in range(1, 4):
        for group in combinations(range(len(points)), many):
            if is_in_group([points[k] for k in group], p):
                found.append(group)
    return found


def are_disjoint(one, other):
    for k in one:
        if k in other:
            return False
    return True


def disjoint_groups(groups, many):
    """So many of the groups without a common index, None if there are none."""
    if many == 0:
        return []
    for k, group in enumerate(groups):
        rest = [other for other in groups[k + 1:] if are_disjoint(group, other)]
        found = disjoint_groups(rest, many - 1)
        if found is not None:
            return [group] + found
    return None


def parted(points, groups):
    """The groups as parts of the whole list: the first one takes all that is left."""
    taken = []
    for group in groups[1:]:
        taken.extend(group)
    first = [k for k in range(len(points)) if k not in taken]
    return tuple([tuple(first)] + list(groups[1:]))


def common_of_parts(points, many):
    """A common part with so many parts, for at least 3 * many - 2 points."""
    # So many points are enough for the parts (H. Tverberg), and of each part three points
    # are enough for p (C. Caratheodory). What the hulls of the parts have in common has a
    # corner, and this is a point of the list or lies where two segments cross.
    few = points[:3 * many - 2]
    for p in list(few) + crossings(few):
        groups = disjoint_groups(groups_around(few, p), many)
        if groups is not None:
            return (parted(points, groups), p)
    return None


def radon(points):
    """A common part with two parts."""
    check_list(points)
    if len(points) < 4:
        raise TooFew()
    return common_of_parts(points, 2)


def tverberg(points):
    """A common part with three parts."""
    check_list(points)
    if len(points) < 7:
        raise TooFew()
    return common_of_parts(points, 3)


def are_parts(value, many):
    """Whether a value is a tuple of parts of so many indexes, each index in one of them."""
    if not isinstance(value, tuple):
        return False
    indexes = []
    for part in value:
        if not is_ascending(part, many) or part == ():
            return False
        indexes.extend(part)
    return sorted(indexes) == list(range(many))


def shows_common(points, value):
    """Whether a value is a common part of a list."""
    check_list(points)
    if not isinstance(value, tuple) or len(value) != 2:
        return False
    parts, p = value
    if not are_parts(parts, len(points)) or not is_lowest(p, 3):
        return False
    for part in parts:
        if not is_in_hull([points[k] for k in part], p):
            return False
    return True


def directions(ways):
    """Directions, one of them in each gap between those at right angles to a way."""
    borders = []
    for x, y in ways:
        if (x, y) != (0, 0):
            borders.extend([(-y, x), (y, -x)])
    # the sum of two neighbours lies between them; the ways themselves and their opposites
    # are for points on one line with p, where the two neighbours are opposite
    found = [(1, 0)] + [(y, -x) for x, y in borders]
    for (x, y), (u, v) in combinations(borders, 2):
        found.append((x + u, y + v))
    return [row for row in found if row != (0, 0)]


def depth_of(points, p):
    """What depth tells, for points of any size."""
    ways = [way(p, q) for q in points]
    best = None
    for u, v in directions(ways):
        count = len([1 for x, y in ways if u * x + v * y >= 0])
        if best is None or count < best[0]:
            best = (count, (u, v))
    return best


def depth(points, p):
    """The depth of p, and the direction of a half-plane with so many points."""
    check_list(points)
    check_each((p,))
    if len(points) > MOST_DEEP:
        raise TooMany(MOST_DEEP)
    return depth_of(points, p)


def center(points):
    """A point whose depth, times 3, is at least the number of points."""
    check_list(points)
    if len(points) > MOST_DEEP:
        raise TooMany(MOST_DEEP)
    # each half-plane with p has a point of each part
    return common_of_parts(points, (len(points) + 2) // 3)[1]
