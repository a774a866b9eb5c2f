"""Choices of points, and the cells of all points of the plane to which just these are nearest."""

from itertools import combinations

from meshcore.circles import center_of, check_round, points_inside
from meshcore.errors import BadChoice, BadNumber, TooFew, TooMany
from meshcore.exact import are_numbers, is_ascending, is_less, is_whole, places_of, plus, times
from meshcore.linear import alternative
from meshcore.points import check_each, check_list, gap2, is_lowest, lowest, on_grid, ranking
from meshcore.turns import check_general, combinations_of_three

LEAST_POINTS = 3
MOST_POINTS = 8


def check_near(points):
    check_list(points)
    if len(points) < LEAST_POINTS:
        raise TooFew()
    if len(points) > MOST_POINTS:
        raise TooMany(MOST_POINTS)
    check_general(points)
    check_round(points)


def check_size(points, k):
    if not is_whole(k) or not 1 <= k < len(points):
        raise BadNumber()


def check_choice(points, some):
    check_near(points)
    if not is_ascending(some, len(points)) or not 1 <= len(some) < len(points):
        raise BadChoice()


def chosen_with_others(many, some):
    """All pairs of a chosen index and one that is not chosen."""
    return [(s, t) for s in some for t in range(many) if t not in some]


def comparison(grid, s, t):
    """The row whose product with a point is above 0 if the point is nearer to s than to t.

    The first two numbers are twice the way from t to s, the last one tells how much farther
    from the origin t is than s, by the squares of the distances."""
    x, y = grid[s]
    u, v = grid[t]
    return [2 * (x - u), 2 * (y - v), u * u + v * v - x * x - y * y]


def held(points, some):
    """What holding tells, for a choice."""
    common, grid = on_grid(points)
    rows = chosen_with_others(len(points), some)
    # the last row asks that the last number of the center is above 0
    sums = [comparison(grid, s, t) for s, t in rows] + [[0, 0, 1]]
    numbers, weights = alternative(sums, 3)
    if weights is None:
        return ("center", lowest(numbers[0], numbers[1], numbers[2] * common))
    return ("mixture", tuple([(s, t, m) for (s, t), m in zip(rows, weights) if m > 0]))


def has_cell(points, some):
    return held(points, some)[0] == "center"


def is_center(points, some, q):
    if not is_lowest(q, 3):
        return False
    for s, t in chosen_with_others(len(points), some):
        if not is_less(gap2(points[s], q), gap2(points[t], q)):
            return False
    return True


def is_refusal_row(item, many, some):
    """Whether a value is a triple of a chosen index, one that is not chosen, and a number above 0."""
    if not are_numbers(item, 3):
        return False
    s, t, m = item
    return s in some and 0 <= t < many and t not in some and m > 0


def are_refusal_rows(value, many, some):
    if not isinstance(value, tuple) or len(value) == 0:
        return False
    for k, item in enumerate(value):
        if not is_refusal_row(item, many, some):
            return False
        if k > 0 and item <= value[k - 1]:
            return False
    return True


def is_refusal(points, some, rows):
    if not are_refusal_rows(rows, len(points), some):
        return False
    _, grid = on_grid(points)
    totals = [0, 0, 0]
    for s, t, m in rows:
        totals = [total + m * one for total, one in zip(totals, comparison(grid, s, t))]
    return totals[0] == 0 and totals[1] == 0 and totals[2] <= 0


def nearest_choices(points, k):
    """All choices of k indexes that have a cell."""
    check_near(points)
    check_size(points, k)
    return tuple([some for some in combinations(range(len(points)), int(k)) if has_cell(points, some)])


def holding(points, some):
    """A center of a choice, or a refusal."""
    check_choice(points, some)
    return held(points, some)


def shows_holding(points, some, value):
    """Whether a value is a center of a choice or a refusal."""
    check_choice(points, some)
    if not isinstance(value, tuple) or len(value) != 2:
        return False
    if value[0] == "center":
        return is_center(points, some, value[1])
    return value[0] == "mixture" and is_refusal(points, some, value[1])


def circle_counts(points):
    """The numbers of triples with 0, 1, 2 .. points inside their circle."""
    check_near(points)
    counts = [0] * (len(points) - 2)
    for triple in combinations_of_three(len(points)):
        counts[len(points_inside(points, triple))] += 1
    return tuple(counts)


def is_corner(points, some, triple):
    """Whether the center of a circle through three points is a corner of the cell of a choice."""
    # so it is if the points inside the circle are chosen, and of the three one or two
    inside = points_inside(points, triple)
    return [k for k in some if k not in triple] == inside and 1 <= len(some) - len(inside) <= 2


def cell_corners(points, some):
    """The corners of the cell of a choice, in the order of points."""
    check_choice(points, some)
    triples = [triple for triple in combinations_of_three(len(points)) if is_corner(points, some, triple)]
    found = [center_of(points[i], points[j], points[k]) for i, j, k in triples]
    return tuple([found[k] for k in ranking(found)])


def nearest(points, q, k):
    """The choice of the k points nearest to q, None if it is not determined."""
    check_near(points)
    check_each((q,))
    check_size(points, k)
    gaps = [gap2(p, q) for p in points]
    places = places_of(gaps)
    rows = sorted([(places[gap], at) for at, gap in enumerate(gaps)])
    if rows[k - 1][0] == rows[k][0]:
        return None
    return tuple(sorted([at for _, at in rows[:k]]))


def average_of(points, some):
    """The average of the chosen points, and that of their squared distances from there."""
    check_choice(points, some)
    common, grid = on_grid([points[k] for k in some])
    x = sum([row[0] for row in grid])
    y = sum([row[1] for row in grid])
    p = lowest(x, y, common * len(some))
    total = (0, 1)
    for k in some:
        total = plus(total, gap2(points[k], p))
    return (p, times(total, (1, len(some))))
