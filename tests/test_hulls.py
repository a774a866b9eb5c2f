"""Promise [6]: hulls, mixtures and barriers."""

from fractions import Fraction
from itertools import combinations

from meshcore.errors import BadPoint, BadPoints
from meshcore.hulls import hull, locate_in_hull, shows_in_hull
from tests.helpers import BAD_POINTS, LIMIT, STRANGE, Checked, at, cross, deep, frac, plain, seeded
from tests.helpers import some_point, some_points

TRIANGLE = plain((0, 0), (4, 0), (0, 4), (1, 1))


def in_group(group, p):
    """Whether p is in the hull of at most three points, with fractions."""
    spots = [at(q) for q in group]
    p = at(p)
    if len(spots) == 1:
        return spots[0] == p
    if len(spots) == 2 or cross(*spots) == 0:
        low, high = min(spots), max(spots)
        return cross(low, high, p) == 0 and low <= p <= high
    turns = [cross(spots[k - 1], spots[k], p) for k in range(3)]
    return min(turns) >= 0 or max(turns) <= 0


def is_inside(points, p):
    return any(in_group(group, p) for many in (1, 2, 3) for group in combinations(points, many))


class Hulls(Checked):

    def holds(self, points, p, value):
        """The certificate, held against the words of the document."""
        self.assertIsInstance(value, tuple)
        if value[0] == "in":
            _, indexes, weights = value
            self.assertEqual(list(indexes), sorted(set(indexes)))
            self.assertLessEqual(len(indexes), 3)
            self.assertEqual(len(indexes), len(weights))
            for one in weights:
                self.assertEqual((frac(one).numerator, frac(one).denominator), one)
                self.assertGreater(frac(one), 0)
            self.assertEqual(sum(frac(one) for one in weights), 1)
            for side in (0, 1):
                blend = sum(frac(one) * at(points[k])[side] for k, one in zip(indexes, weights))
                self.assertEqual(blend, at(p)[side])
        else:
            told, u, v, s = value
            self.assertEqual(told, "out")
            self.assertEqual([number.__class__ for number in (u, v, s)], [int] * 3)
            self.assertTrue(all(u * at(q)[0] + v * at(q)[1] <= s for q in points))
            self.assertGreater(u * at(p)[0] + v * at(p)[1], s)
        self.assertIs(shows_in_hull(points, p, value), True)

    def test_hull(self):
        self.assertEqual(hull(TRIANGLE), TRIANGLE[:3])
        self.assertEqual(hull(TRIANGLE[::-1]), TRIANGLE[:3])
        square = plain((2, 2), (0, 2), (1, 2), (2, 0), (0, 0), (0, 1), (1, 0), (1, 1))
        self.assertEqual(hull(square), plain((0, 0), (2, 0), (2, 2), (0, 2)))
        self.assertEqual(hull(plain((0, 1), (1, 0), (-1, 0))), plain((-1, 0), (1, 0), (0, 1)))

    def test_hull_that_is_a_point_or_a_segment(self):
        self.assertEqual(hull(((5, 7, 3),)), ((5, 7, 3),))
        self.assertEqual(hull(plain((4, 0), (0, 4))), plain((0, 4), (4, 0)))
        self.assertEqual(hull(plain((1, 3), (1, 9), (1, 5), (1, 4))), plain((1, 3), (1, 9)))
        self.assertEqual(hull(plain((3, 3), (1, 1), (2, 2))), plain((1, 1), (3, 3)))

    def test_hull_like_fractions(self):
        rows = seeded(8)
        for _ in range(300):
            points = some_points(rows, rows.randint(1, 9), 2, 2)
            found = hull(points)
            spots = {p for p in points if not is_inside([q for q in points if q != p], p)}
            self.assertEqual(set(found), spots)
            self.assertEqual(len(found), len(spots))
            self.assertEqual(at(found[0]), min(at(p) for p in points))
            for k in range(len(found) if len(found) > 2 else 0):
                self.assertGreater(cross(at(found[k - 2]), at(found[k - 1]), at(found[k])), 0)

    def test_locate(self):
        rows = seeded(9)
        kinds = {"in": 0, "out": 0}
        for _ in range(600):
            points = some_points(rows, rows.randint(1, 8), 2, 2)
            p = some_point(rows, 2, 1, 2)
            value = locate_in_hull(points, p)
            self.holds(points, p, value)
            self.assertEqual(value[0] == "in", is_inside(points, p))
            kinds[value[0]] += 1
        self.assertGreater(min(kinds.values()), 50)

    def test_locate_on_the_border(self):
        for p in TRIANGLE + ((1, 0, 1), (2, 2, 1), (0, 1, 3), (11, 1, 3)):
            self.assertEqual(locate_in_hull(TRIANGLE, p)[0], "in")
            self.holds(TRIANGLE, p, locate_in_hull(TRIANGLE, p))
        for p in ((-1, 0, LIMIT), (0, -1, LIMIT), (LIMIT // 2, 4, 1), (LIMIT, 1, LIMIT // 4)):
            self.assertEqual(locate_in_hull(TRIANGLE, p)[0], "out")
            self.holds(TRIANGLE, p, locate_in_hull(TRIANGLE, p))

    def test_locate_for_flat_hulls(self):
        one = ((1, 2, 3),)
        self.assertEqual(locate_in_hull(one, (1, 2, 3)), ("in", (0,), ((1, 1),)))
        for p in ((1, 2, 4), (1, 3, 3), (0, 2, 3), (1, 1, 3), (2, 2, 3)):
            self.assertEqual(locate_in_hull(one, p)[0], "out")
            self.holds(one, p, locate_in_hull(one, p))
        row = plain((0, 0), (3, 3), (1, 1), (6, 6))
        for p in ((-1, -1, 1), (7, 7, 1), (1, 2, 1), (2, 1, 1), (0, 1, 1), (6, 5, 1)):
            self.assertEqual(locate_in_hull(row, p)[0], "out")
            self.holds(row, p, locate_in_hull(row, p))
        for p in ((0, 0, 1), (1, 1, 2), (6, 6, 1), (5, 5, 1)):
            self.assertEqual(locate_in_hull(row, p)[0], "in")
            self.holds(row, p, locate_in_hull(row, p))
        upright = plain((2, 5), (2, -1))
        for p in ((2, 0, 1), (2, 6, 1), (2, -2, 1), (3, 0, 1)):
            self.holds(upright, p, locate_in_hull(upright, p))

    def test_locate_far_points(self):
        rows = seeded(10)
        points = some_points(rows, 40, LIMIT, LIMIT)
        for _ in range(20):
            p = some_point(rows, LIMIT, 1, LIMIT)
            self.holds(points, p, locate_in_hull(points, p))

    def test_shows_mixtures(self):
        p = (1, 1, 1)
        good = (
            ("in", (3,), ((1, 1),)),
            ("in", (0, 1, 2), ((1, 2), (1, 4), (1, 4))),
        )
        for value in good:
            self.assertIs(shows_in_hull(TRIANGLE, p, value), True)
        wrong = (
            ("in", (3, 3), ((1, 2), (1, 2))),
            ("in", (0,), ((1, 1),)),
            ("in", (), ()),
            ("in", (0, 1, 2), ((1, 2), (1, 4))),
            ("in", (0, 1, 2), ((2, 4), (1, 4), (1, 4))),
            ("in", (0, 1, 2), ((-1, -2), (1, 4), (1, 4))),
            ("in", (0, 1, 2), ((1, 2), (1, 4), (1, 4), (0, 1))),
            ("in", (0, 2, 1), ((1, 2), (1, 4), (1, 4))),
            ("in", (0, 1, 2, 3), ((1, 4), (1, 8), (1, 8), (1, 2))),
            ("in", (0, 3), ((0, 1), (1, 1))),
            ("in", (-1,), ((1, 1),)),
            ("in", (4,), ((1, 1),)),
            ("in", [3], ((1, 1),)),
            ("in", (3,), [(1, 1)]),
            ("in", (3,), ([1, 1],)),
            ("in", (3,), ((True, 1),)),
            ("in", (3,), ((1, True),)),
            ("in", (3,), (1,)),
            ("in", (3,), ((1, 1, 7),)),
            ("in", (3,), ((1,),)),
            ("in", (3,), ((),)),
            ("in", (3,), ((1, 0),)),
            ("in", (3,), ((1, 1), (0, 1))),
            ("in", (0, 3), ((1, 1),)),
            ("in", (3,), ((1, 1),), ()),
            ["in", (3,), ((1, 1),)],
            ("out", (3,), ((1, 1),)),
            ("in", (3,)),
        )
        for value in wrong:
            with self.subTest(value=value):
                self.assertIs(shows_in_hull(TRIANGLE, p, value), False)
        row = plain((0, 0), (1, 0), (2, 0), (9, 0))
        third = ("in", (0, 1, 2), ((1, 4), (1, 2), (1, 4)))
        self.assertIs(shows_in_hull(row, (1, 0, 1), third), True)
        self.assertIs(shows_in_hull(row, (1, 0, 1), ("in", (False, 2), ((1, 2), (1, 2)))), False)
        self.assertIs(shows_in_hull(row, (1, 0, 1), ("in", (0, 2), ((1, 2), (1, 2)))), True)
        # the sum of the weights is not 1 although the sum of the points is right
        self.assertIs(shows_in_hull(row, (2, 0, 1), ("in", (1,), ((2, 1),))), False)
        self.assertIs(shows_in_hull(row, (0, 0, 1), ("in", (1, 2), ((2, 1), (-1, 1)))), False)
        self.assertIs(shows_in_hull(row, (0, 0, 1), ("in", (1, 2), ((2, 1), (1, -1)))), False)
        # more weights than indexes, and fewer
        self.assertIs(shows_in_hull(row, (1, 0, 2), ("in", (1,), ((1, 2), (1, 2)))), False)
        self.assertIs(shows_in_hull(row, (0, 0, 1), ("in", (0, 1), ((1, 1),))), False)
        # one coordinate alone is right
        self.assertIs(shows_in_hull(TRIANGLE, (0, 1, 1), ("in", (3,), ((1, 1),))), False)
        self.assertIs(shows_in_hull(TRIANGLE, (1, 0, 1), ("in", (3,), ((1, 1),))), False)

    def test_shows_barriers(self):
        p = (5, 0, 1)
        good = (("out", 1, 0, 4), ("out", 2, 1, 8), ("out", 1, 1, 4), ("out", 10 ** 40, 0, 4 * 10 ** 40))
        for value in good:
            self.assertIs(shows_in_hull(TRIANGLE, p, value), True)
        wrong = (
            ("out", 1, 0, 3), ("out", 1, 0, 5), ("out", -1, 0, -4), ("out", 0, 0, 0), ("out", 0, 0, -1),
            ("out", True, 0, 4), ("out", 1, False, 4), ("out", 1, 0, True), ("out", 1, 0), ("out", 1, 0, 4, 0),
            ("out", 1, 0, (4, 1)), ("out", "1", 0, 4), ("out", None, 0, 4), ["out", 1, 0, 4], ("in", 1, 0, 4),
            ("out", (1, 0, 4)), (1, 0, 4), ("out", [1], 0, 4),
        )
        for value in wrong:
            with self.subTest(value=value):
                self.assertIs(shows_in_hull(TRIANGLE, p, value), False)
        half = ((1, 0, 2), (0, 1, 1))
        self.assertIs(shows_in_hull(half, (2, 0, 3), ("out", 4, 2, 2)), True)
        self.assertIs(shows_in_hull(half, (2, 0, 3), ("out", 4, 1, 2)), True)
        self.assertIs(shows_in_hull(half, (2, 0, 3), ("out", 4, 3, 2)), False)
        self.assertIs(shows_in_hull(half, (2, 0, 3), ("out", 3, 0, 2)), False)

    def test_shows_any_value(self):
        for value in STRANGE + (deep(5000), ("in", deep(5000), deep(5000)), ("out",) + (deep(5000),) * 3):
            self.assertIs(shows_in_hull(TRIANGLE, (1, 1, 1), value), False)
            self.assertIs(shows_in_hull(TRIANGLE, (9, 9, 1), ("in", value, value)), False)
            self.assertIs(shows_in_hull(TRIANGLE, (1, 1, 1), (value, (3,), ((1, 1),))), value == "in")
            self.assertIs(shows_in_hull(TRIANGLE, (5, 0, 1), (value, 1, 0, 4)), value == "out")

    def test_weights_are_exact(self):
        value = locate_in_hull(plain((0, 0), (3, 0)), (1, 0, 1))
        self.assertEqual(value, ("in", (0, 1), ((2, 3), (1, 3))))
        self.assertEqual(sum(Fraction(*one) for one in value[2]), 1)

    def test_wrong_arguments(self):
        self.bad_points(hull, (), ())
        for call, rest in ((locate_in_hull, ()), (shows_in_hull, (("in", (0,), ((1, 1),)),))):
            self.bad_points(call, (), ((0, 0, 1),) + rest)
            self.bad_points(call, (), (None,) + rest)
            self.bad_point(call, (TRIANGLE,), rest)
        for value in BAD_POINTS:
            self.raised(BadPoints, locate_in_hull, (value,), value, index=0)
            self.raised(BadPoint, shows_in_hull, TRIANGLE, value, None)
