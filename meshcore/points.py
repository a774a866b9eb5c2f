"""Points of the plane and lists of points."""

from math import gcd, lcm

from meshcore.errors import BadPoint, BadPoints
from meshcore.exact import are_numbers, common_divisor, is_whole, ratio, sign

# 10 ** 12, for the numbers of points that are arguments
LIMIT = 1000000000000
LONGEST = 40


def lowest(x, y, w):
    """The point with the coordinates x / w and y / w; w is not 0."""
    common = gcd(gcd(x, y), w)
    if w < 0:
        common = -common
    return (x // common, y // common, w // common)


def is_lowest(value, many):
    """Whether a value is a tuple of so many integers without a common divisor, the last one above 0."""
    return are_numbers(value, many) and value[-1] > 0 and common_divisor(value) == 1


def is_within(numbers):
    return max([abs(number) for number in numbers]) <= LIMIT


def is_point(value):
    """Whether a value is a point that may be an argument."""
    return is_lowest(value, 3) and is_within(value)


def check_each(values):
    for value in values:
        if not is_point(value):
            raise BadPoint()


def check_list(points):
    if not isinstance(points, tuple) or not 1 <= len(points) <= LONGEST:
        raise BadPoints(None)
    seen = {}
    for k, item in enumerate(points):
        if not is_point(item) or item in seen:
            raise BadPoints(k)
        seen[item] = True


def order(a, b):
    """What compare tells, for points of any size."""
    first = sign(a[0] * b[2] - b[0] * a[2])
    if first != 0:
        return first
    return sign(a[1] * b[2] - b[1] * a[2])


def way(a, b):
    """The way from a to b in integers: its coordinates, times a number above 0."""
    return (b[0] * a[2] - a[0] * b[2], b[1] * a[2] - a[1] * b[2])


def gap2(a, b):
    """What distance2 tells, for points of any size."""
    x, y = way(a, b)
    w = a[2] * b[2]
    return ratio(x * x + y * y, w * w)


def middle(a, b):
    """The point halfway from a to b."""
    return lowest(a[0] * b[2] + b[0] * a[2], a[1] * b[2] + b[1] * a[2], 2 * a[2] * b[2])


def on_grid(points):
    """A number above 0, and the coordinates of all points times this number: integers."""
    common = 1
    for item in points:
        common = lcm(common, item[2])
    return (common, [(x * (common // w), y * (common // w)) for x, y, w in points])


def ranking(points):
    """The indexes of points of any size, in the order of the points."""
    _, rows = on_grid(points)
    return [row[2] for row in sorted([(x, y, k) for k, (x, y) in enumerate(rows)])]


def point(x, y, *, w=1):
    """The point with the coordinates x / w and y / w."""
    for number in (x, y, w):
        if not is_whole(number) or abs(number) > LIMIT:
            raise BadPoint()
    if w == 0:
        raise BadPoint()
    return lowest(x, y, w)


def compare(a, b):
    """-1 if a comes before b, 0 if they are equal, otherwise 1."""
    check_each((a, b))
    return order(a, b)


def distance2(a, b):
    """The square of the distance of two points."""
    check_each((a, b))
    return gap2(a, b)


def ranked(points):
    """The indexes of a point list, in the order of its points."""
    check_list(points)
    return tuple(ranking(points))
