"""Promises [33] to [36]: choices of nearest points, their cells, centers and refusals."""

from fractions import Fraction
from itertools import combinations

from meshcore.edgecounts import separable
from meshcore.errors import BadChoice, BadNumber, BadPoint, NotGeneral, NotGeneric, TooFew, TooMany
from meshcore.nearest import average_of, cell_corners, circle_counts, holding, nearest, nearest_choices, shows_holding
from tests.disks import CheckedDisks, ROUND, circle, gap, inside, some_round
from tests.helpers import LIMIT, STRANGE, at, deep, of, on_curve, plain, rat, seeded, some_point

THREE = plain((0, 0), (4, 0), (0, 2))
# point 3 lies inside the triangle of the others
STAR = plain((0, 0), (9, 1), (2, 8), (4, 3))
WRONG_CHOICES = STRANGE + (
    (0, 0), (1, 0), (0, 1, 2, 3), (0, 4), (4,), (-1,), (-1, 0), (True, 2), (0, True), [0], [0, 1], {0: 1}, "0",
    (0, 1, 1), ((0,),), (10 ** 30,), deep(50),
)


def near_errors(case, call, *rest):
    """The points of promises [33] to [36]: all their errors, in their order."""
    case.bad_points(call, (), rest)
    for points in (plain((1, 1)), plain((1, 1), (5, 4))):
        case.raised(TooFew, call, points, *rest)
    flat = plain(*[(k, 0) for k in range(9)])
    for points in (on_curve(9), on_curve(40), flat, ROUND[:9]):
        case.raised(TooMany, call, points, *rest, most=8)
    for points in (flat[:3], flat[:8], plain((0, 0), (2, 1), (5, 5), (4, 2)), ROUND[:4] + ((0, 0, 1), (-5, 0, 1))):
        case.raised(NotGeneral, call, points, *rest)
    for points in (ROUND[:4], ROUND[:8], ROUND[:3] + ((1, 1, 1), (-3, 4, 1)), plain((0, 0), (7, 0), (2, 6), (5, 6))):
        case.raised(NotGeneric, call, points, *rest)


def sizes_and_lists(seed, each=3):
    rows = seeded(seed)
    found = []
    for many, size, most in ((3, 4, 2), (4, 6, 1), (5, 9, 2), (6, 12, 1), (7, 20, 1), (8, 30, 2)):
        found.extend([some_round(rows, many, size, most) for _ in range(each)])
    return found


def choices_by_circles(points, k):
    """Each cell has a corner: its circle has one or two chosen points, and inside all other chosen ones."""
    spots = [at(p) for p in points]
    found = set()
    for triple in combinations(range(len(points)), 3):
        within = inside(spots, triple)
        for size in (1, 2):
            for part in combinations(triple, size):
                if len(within) + size == k:
                    found.add(tuple(sorted(within + list(part))))
    return tuple(sorted(found))


def corners_by_words(points, some):
    spots = [at(p) for p in points]
    found = set()
    for triple in combinations(range(len(points)), 3):
        center, _ = circle(*[spots[k] for k in triple])
        most = max(gap(spots[k], center) for k in some)
        least = min(gap(p, center) for k, p in enumerate(spots) if k not in some)
        if most <= least and len(set(triple) & set(some)) in (1, 2):
            found.add(center)
    return tuple(of(x, y) for x, y in sorted(found))


def is_refusal(points, some, rows):
    """The words of promise [34], with fractions."""
    spots = [at(p) for p in points]
    sums = [Fraction(0)] * 3
    for s, t, m in rows:
        (x, y), (u, v) = spots[s], spots[t]
        sums = [sums[0] + m * (u - x), sums[1] + m * (v - y), sums[2] + m * (u * u + v * v - x * x - y * y)]
    return sums[0] == sums[1] == 0 and sums[2] <= 0


class Choices(CheckedDisks):

    def test_ordinary(self):
        self.assertEqual(nearest_choices(THREE, 1), ((0,), (1,), (2,)))
        self.assertEqual(nearest_choices(THREE, 2), ((0, 1), (0, 2), (1, 2)))
        self.assertEqual(nearest_choices(STAR, 1), ((0,), (1,), (2,), (3,)))
        self.assertEqual(nearest_choices(STAR, 3), ((0, 1, 3), (0, 2, 3), (1, 2, 3)))

    def test_like_circles(self):
        for points in sizes_and_lists(91):
            for k in range(1, len(points)):
                self.assertEqual(nearest_choices(points, k), choices_by_circles(points, k))

    def test_number_of_choices(self):
        for points in sizes_and_lists(92, 2):
            many = len(points)
            for k in range(1, many):
                less = sum(len(separable(points, j)) for j in range(1, k))
                self.assertEqual(len(nearest_choices(points, k)), 2 * k * many - many - k * k + 1 - less)

    def test_wrong_points(self):
        near_errors(self, nearest_choices, 1)
        near_errors(self, nearest_choices, 0)

    def test_wrong_numbers(self):
        for k in [value for value in STRANGE if value not in (1,) or value is True] + [0, -1, 3, 4, 10 ** 30, deep(50)]:
            with self.subTest(k=k):
                self.raised(BadNumber, nearest_choices, THREE, k)
        self.assertEqual(len(nearest_choices(STAR, 3)), 3)
        self.raised(BadNumber, nearest_choices, STAR, 4)


class Holding(CheckedDisks):

    def holding_holds(self, points, some):
        found = holding(points, some)
        self.assertIs(found.__class__, tuple)
        self.assertEqual(len(found), 2)
        self.assertTrue(shows_holding(points, some, found))
        if found[0] == "center":
            x, y = at(found[1])
            self.assertEqual(of(x, y), found[1])
            most = max(gap(at(points[k]), (x, y)) for k in some)
            self.assertLess(most, min(gap(at(p), (x, y)) for k, p in enumerate(points) if k not in some))
            return True
        self.assertEqual(found[0], "mixture")
        self.assertGreater(len(found[1]), 0)
        self.assertEqual(list(found[1]), sorted(set(found[1])))
        for s, t, m in found[1]:
            self.assertTrue(s in some and t not in some and 0 <= t < len(points) and m > 0)
        self.assertTrue(is_refusal(points, some, found[1]))
        return False

    def test_all_choices(self):
        for points in sizes_and_lists(93, 2):
            for k in range(1, len(points)):
                told = choices_by_circles(points, k)
                for some in combinations(range(len(points)), k):
                    self.assertEqual(self.holding_holds(points, some), some in told)

    def test_large_numbers(self):
        rows = seeded(94)
        for many in (3, 5, 8):
            points = some_round(rows, many, LIMIT, LIMIT)
            for some in ((0,), tuple(range(1, many)), tuple(range(0, many, 2))):
                told = choices_by_circles(points, len(some))
                self.assertEqual(self.holding_holds(points, some), some in told)

    def test_ordinary(self):
        self.assertEqual(holding(STAR, (0, 1, 2))[0], "mixture")
        self.assertEqual(holding(STAR, (3,))[0], "center")
        self.assertEqual(holding(STAR, (0, 1, 3))[0], "center")

    def test_wrong_points(self):
        near_errors(self, holding, (0,))
        near_errors(self, holding, ())
        near_errors(self, shows_holding, (0,), None)
        near_errors(self, shows_holding, 7, ("center", (0, 0, 1)))

    def test_wrong_choices(self):
        for some in [value for value in WRONG_CHOICES if value not in ((1,), (1, 2))]:
            with self.subTest(some=some):
                self.raised(BadChoice, holding, STAR, some)
                self.raised(BadChoice, shows_holding, STAR, some, None)
        self.raised(BadChoice, holding, STAR[:3], (0, 1, 2))
        self.raised(BadChoice, holding, STAR[:3], (3,))


class ShowsHolding(CheckedDisks):

    def test_centers(self):
        for q, told in (((0, 0, 1), True), ((-5, 1, 1), False), ((-5, 0, 1), True), ((1, 0, 1), True),
                        ((19, 0, 10), True), ((2, 0, 1), False), ((0, 1, 1), False), ((9, 9, 10), True),
                        ((2, 1, 1), False), ((-1, -1, 10 ** 30), True),
                        ((-(10 ** 40), -(10 ** 40), 1), True), ((3, 0, 1), False), ((0, 2, 1), False)):
            with self.subTest(q=q):
                self.assertIs(shows_holding(THREE, (0,), ("center", q)), told)
        self.assertIs(shows_holding(THREE, (0, 2), ("center", (0, 1, 1))), True)
        self.assertIs(shows_holding(THREE, (0, 2), ("center", (3, 1, 1))), False)

    def test_wrong_centers(self):
        for value in STRANGE + (
            ("center",), ("center", (0, 0, 1), 1), ["center", (0, 0, 1)], ("center", [0, 0, 1]), ("center", (0, 0, 2)),
            ("center", (0, 0, -1)), ("center", (0, 0, True)), ("center", (0, False, 1)), ("center", (0, 0)),
            ("center", None), ("center", (0, 0, 0)), ("center", "ab"), ("Center", (0, 0, 1)), ((0, 0, 1), "center"),
            ("center", deep(50)),
            ("center", ((0, 1, 1),)), ("mixture", (0, 0, 1)), (("center",), (0, 0, 1)), ([], (0, 0, 1)), deep(50),
        ):
            with self.subTest(value=value):
                self.assertIs(shows_holding(THREE, (0,), value), False)

    def test_refusals(self):
        # the middle of points 0 and 1 is that of points 2 and 3, these are farther from one another
        points = plain((-1, 0), (1, 0), (-1, 5), (1, -5))
        good = ((2, 0, 1), (3, 1, 1))
        self.assertIs(shows_holding(points, (2, 3), ("mixture", good)), True)
        self.assertIs(shows_holding(points, (2, 3), ("mixture", ((2, 1, 1), (3, 0, 1)))), True)
        self.assertIs(shows_holding(points, (2, 3), ("mixture", ((2, 0, 7), (3, 1, 7)))), True)
        self.assertIs(shows_holding(points, (2, 3), ("mixture", ((2, 0, 1), (2, 1, 2), (3, 0, 2), (3, 1, 1)))), True)
        self.assertIs(shows_holding(points, (2, 3), ("mixture", ((2, 0, 1), (2, 0, 2), (3, 1, 3)))), True)
        # the same rows for the other choice have a sum above 0
        self.assertIs(shows_holding(points, (0, 1), ("mixture", ((0, 2, 1), (1, 3, 1)))), False)
        for rows in (
            (), good[:1], good[1:], good[::-1], list(good), ((2, 0, 1), (3, 1, 2)), ((2, 0, 0), (3, 1, 0)),
            ((2, 0, -1), (3, 1, -1)), ((2, 0, 1), (3, 1, True)), ((True, 0, 1), (3, 1, 1)),
            ((2, 0, 1), (2, 0, 1), (3, 1, 2)), ((0, 2, 1), (1, 3, 1)), ((2, 0, 1), [3, 1, 1]), ((2, 0, 1), (3, 1)),
            ((2, 0, 1), (3, 1, 1, 1)), ((2, 0, 1), None),
            ((2, False, 1), (3, True, 1)), ((2, 0, 1), (3, 5, 1)), ((2, -4, 1), (3, 1, 1)), ((-2, 0, 1), (3, 1, 1)),
            ((2, 1, 1), (3, 1, 1)), ((2, 0, 1), (3, 4, 1)), ((2, -1, 1), (3, 1, 1)), ((2, 0, 1), (3, -4, 1), (3, 1, 1)),
            ((2, 0, "1"), (3, 1, 1)), ((2, 3, 1), (3, 2, 1)), None, 0, "ab", {}, {(2, 0, 1): 1, (3, 1, 1): 1}, deep(50),
            (((2,), 0, 1), (3, 1, 1)), ((2, 0, [1]), (3, 1, 1)),
        ):
            with self.subTest(rows=rows):
                self.assertIs(shows_holding(points, (2, 3), ("mixture", rows)), False)
        # an index below 0 is none, even where it would lead to the right point
        back = points[::-1]
        self.assertIs(shows_holding(back, (0, 1), ("mixture", ((0, 2, 1), (1, 3, 1)))), True)
        for rows in (((0, 2, 1), (1, -1, 1)), ((0, -2, 1), (1, 3, 1)), ((0, -2, 1), (1, -1, 1))):
            self.assertIs(shows_holding(back, (0, 1), ("mixture", rows)), False)
        for tag in ("center", "Mixture", "", None, ("mixture",), 0):
            self.assertIs(shows_holding(points, (2, 3), (tag, good)), False)
        self.assertIs(shows_holding(points, (2, 3), ("mixture", good, 1)), False)
        self.assertIs(shows_holding(points, (2, 3), ["mixture", good]), False)

    def test_a_sum_of_0_refuses(self):
        # both groups have the same average and the same average of squares
        points = plain((3, 1), (-3, -1), (-2, -2), (1, -2), (1, 4))
        rows = ((0, 2, 2), (0, 3, 1), (1, 3, 1), (1, 4, 2))
        back = ((2, 0, 2), (3, 0, 1), (3, 1, 1), (4, 1, 2))
        self.assertIs(shows_holding(points, (0, 1), ("mixture", rows)), True)
        self.assertIs(shows_holding(points, (2, 3, 4), ("mixture", back)), True)
        self.assertEqual(holding(points, (0, 1))[0], "mixture")
        self.assertEqual(holding(points, (2, 3, 4))[0], "mixture")
        # the same, moved: only the differences count
        moved = tuple((x + 7, y - 9, 1) for x, y, _ in points)
        self.assertIs(shows_holding(moved, (0, 1), ("mixture", rows)), True)
        nearer = points[:4] + ((1, 5, 1),)
        self.assertIs(shows_holding(nearer, (0, 1), ("mixture", rows)), False)

    def test_with_fractions(self):
        points = ((-1, 0, 3), (1, 0, 3), (-1, 5, 3), (1, -5, 3))
        self.assertIs(shows_holding(points, (2, 3), ("mixture", ((2, 0, 1), (3, 1, 1)))), True)
        points = ((-1, 0, 2), (1, 0, 2), (-1, 3, 3), (1, -3, 3))
        self.assertIs(shows_holding(points, (2, 3), ("mixture", ((2, 0, 1), (3, 1, 1)))), True)
        self.assertIs(shows_holding(points, (2, 3), ("mixture", ((2, 0, 1), (3, 1, 2)))), False)


class Corners(CheckedDisks):

    def test_counts(self):
        self.assertEqual(circle_counts(THREE), (1,))
        self.assertEqual(circle_counts(STAR), (3, 1))
        for points in sizes_and_lists(95):
            spots = [at(p) for p in points]
            many = len(points)
            numbers = [len(inside(spots, row)) for row in combinations(range(many), 3)]
            found = circle_counts(points)
            self.assertEqual(found, tuple(numbers.count(j) for j in range(many - 2)))
            for j in range(many - 2):
                self.assertEqual(found[j] + found[many - 3 - j], 2 * (j + 1) * (many - 2 - j))

    def test_corners(self):
        self.assertEqual(cell_corners(THREE, (1,)), ((2, 1, 1),))
        self.assertEqual(cell_corners(STAR, (0, 1, 2)), ())
        self.assertEqual(len(cell_corners(STAR, (3,))), 3)

    def test_corners_like_the_words(self):
        for points in sizes_and_lists(96, 2):
            counts = circle_counts(points) + (0,)
            for k in range(1, len(points)):
                total = 0
                for some in combinations(range(len(points)), k):
                    found = cell_corners(points, some)
                    self.assertEqual(found, corners_by_words(points, some))
                    self.assertEqual(found != (), some in choices_by_circles(points, k))
                    total += len(found)
                told = counts[k - 1] + (counts[k - 2] if k > 1 else 0)
                self.assertEqual(total, 3 * told)

    def test_large_corners(self):
        points = some_round(seeded(97), 5, LIMIT, LIMIT)
        for some in ((0,), (1, 3), (0, 2, 3, 4)):
            self.assertEqual(cell_corners(points, some), corners_by_words(points, some))

    def test_wrong(self):
        near_errors(self, circle_counts)
        near_errors(self, cell_corners, (0,))
        near_errors(self, cell_corners, None)
        for some in [value for value in WRONG_CHOICES if value not in ((1,), (1, 2))]:
            with self.subTest(some=some):
                self.raised(BadChoice, cell_corners, STAR, some)


class Nearest(CheckedDisks):

    def test_ordinary(self):
        self.assertEqual(nearest(THREE, (2, 0, 1), 2), (0, 1))
        self.assertIsNone(nearest(THREE, (2, 0, 1), 1))
        self.assertIsNone(nearest(THREE, (2, 1, 1), 1))
        self.assertIsNone(nearest(THREE, (2, 1, 1), 2))
        self.assertEqual(nearest(STAR, (2, 8, 1), 1), (2,))
        self.assertEqual(nearest(STAR, (2, 8, 1), 2), (2, 3))
        self.assertEqual(nearest(STAR, (2, 8, 1), 3), (0, 2, 3))

    def test_like_sorting(self):
        rows = seeded(98)
        for points in sizes_and_lists(99):
            for _ in range(6):
                q = some_point(rows, 6, 1, 2)
                gaps = [gap(at(p), at(q)) for p in points]
                for k in range(1, len(points)):
                    order = sorted(range(len(points)), key=lambda index: gaps[index])
                    told = None if gaps[order[k - 1]] == gaps[order[k]] else tuple(sorted(order[:k]))
                    self.assertEqual(nearest(points, q, k), told)

    def test_wrong(self):
        near_errors(self, nearest, (0, 0, 1), 1)
        near_errors(self, nearest, 5, 0)
        self.bad_point(nearest, (THREE,), (1,))
        self.bad_point(nearest, (THREE,), (0,))
        for k in [value for value in STRANGE if value not in (1,) or value is True] + [0, -1, 3, 10 ** 30, deep(50)]:
            with self.subTest(k=k):
                self.raised(BadNumber, nearest, THREE, (9, 9, 1), k)
        self.raised(BadPoint, nearest, THREE, (LIMIT + 1, 0, 1), 3)


class Averages(CheckedDisks):

    def test_ordinary(self):
        self.assertEqual(average_of(THREE, (0, 1)), ((2, 0, 1), (4, 1)))
        self.assertEqual(average_of(THREE, (2,)), ((0, 2, 1), (0, 1)))
        self.assertEqual(average_of(STAR, (0, 1, 2)), ((11, 9, 3), (248, 9)))

    def test_like_fractions(self):
        rows = seeded(100)
        lists = sizes_and_lists(101, 1) + [some_round(rows, 8, LIMIT, LIMIT)]
        for points in lists:
            for k in range(1, len(points)):
                some = tuple(sorted(rows.sample(range(len(points)), k)))
                spots = [at(points[index]) for index in some]
                x, y = sum(p[0] for p in spots) / k, sum(p[1] for p in spots) / k
                worth = sum(gap(p, (x, y)) for p in spots) / k
                self.assertEqual(average_of(points, some), (of(x, y), rat(worth)))

    def test_least_for_the_nearest(self):
        rows = seeded(102)
        for points in sizes_and_lists(103, 1):
            many = len(points)
            for k in range(1, many):
                q = some_point(rows, 9, 1, 2)
                powers = {}
                for some in combinations(range(many), k):
                    p, v = average_of(points, some)
                    powers[some] = gap(at(p), at(q)) + Fraction(*v)
                    self.assertEqual(powers[some], sum(gap(at(points[index]), at(q)) for index in some) / k)
                told = nearest(points, q, k)
                if told is not None:
                    self.assertEqual([some for some in powers if powers[some] == min(powers.values())], [told])

    def test_wrong(self):
        near_errors(self, average_of, (0,))
        near_errors(self, average_of, None)
        for some in [value for value in WRONG_CHOICES if value not in ((1,), (1, 2))]:
            with self.subTest(some=some):
                self.raised(BadChoice, average_of, STAR, some)
