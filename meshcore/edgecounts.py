"""Counts of points on both sides of lines through two points."""

from itertools import combinations, permutations
from math import comb

from meshcore.errors import BadNumber, BadPair, TooFew
from meshcore.exact import is_whole
from meshcore.points import check_list
from meshcore.turns import check_general, orient


def check_counted(points):
    check_list(points)
    check_general(points)


def left_of(points, i, j):
    """The indexes of the points to the left of the way from point i to point j."""
    a, b = points[i], points[j]
    return [k for k, p in enumerate(points) if orient(a, b, p) > 0]


def left_counts(points):
    """The numbers of ordered pairs with 0, 1, 2 .. points to the left."""
    check_counted(points)
    many = len(points)
    if many < 2:
        raise TooFew()
    counts = [0] * (many - 1)
    for i, j in permutations(range(many), 2):
        counts[len(left_of(points, i, j))] += 1
    return tuple(counts)


def crossing_count(points):
    """The number of pairs of segments between the points that cross."""
    check_counted(points)
    many = len(points)
    # Of four points two or three pairs part the other two: two if they have a crossing.
    count = 3 * comb(many, 4)
    for i, j in combinations(range(many), 2):
        left = len(left_of(points, i, j))
        count -= left * (many - 2 - left)
    return count


def halving_pairs(points):
    """The pairs with as many points on the one side of their line as on the other."""
    check_counted(points)
    many = len(points)
    pairs = list(combinations(range(many), 2))
    return tuple([(i, j) for i, j in pairs if 2 * len(left_of(points, i, j)) == many - 2])


def separable(points, k):
    """The sets of k indexes whose points a line separates from all others."""
    check_counted(points)
    many = len(points)
    if not is_whole(k) or not 0 <= k <= many:
        raise BadNumber()
    if k in (0, many):
        return (tuple(range(k)),)
    found = []
    for i, j in permutations(range(many), 2):
        left = left_of(points, i, j)
        # the line, turned a bit to the left about a point between i and j, has i and
        # these on its left; each set comes from just one ordered pair like this
        if len(left) == k - 1:
            found.append(tuple(sorted(left + [i])))
    return tuple(sorted(found))


def have_common(red, blue):
    seen = {p: True for p in red}
    for p in blue:
        if p in seen:
            return True
    return False


def is_halved(points, a, b):
    """Whether the line through a and b has as many points on the one side as on the other."""
    return sum([orient(a, b, p) for p in points]) == 0


def halving_both(red, blue):
    """A red and a blue index whose line halves the other red and the other blue points."""
    check_list(red)
    check_list(blue)
    if len(red) % 2 == 0 or len(blue) % 2 == 0 or have_common(red, blue):
        raise BadPair()
    check_general(red + blue)
    for i, a in enumerate(red):
        for j, b in enumerate(blue):
            if is_halved(red, a, b) and is_halved(blue, a, b):
                return (i, j)
    return None
