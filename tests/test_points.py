"""Promises [1] and [2]: points, their order, distances, point lists."""

import copy

from meshcore.errors import BadPoint
from meshcore.points import compare, distance2, point, ranked
from tests.helpers import LIMIT, STRANGE, Checked, at, rat, seeded, some_point, some_points


class Points(Checked):

    def test_point_in_lowest_terms(self):
        self.assertEqual(point(3, 4), (3, 4, 1))
        self.assertEqual(point(0, 0, w=5), (0, 0, 1))
        self.assertEqual(point(0, 0, w=-5), (0, 0, 1))
        self.assertEqual(point(2, -4, w=6), (1, -2, 3))
        self.assertEqual(point(2, -4, w=-6), (-1, 2, 3))
        self.assertEqual(point(6, 10, w=15), (6, 10, 15))
        self.assertEqual(point(0, 4, w=8), (0, 1, 2))
        self.assertEqual(point(1, 0, w=-1), (-1, 0, 1))

    def test_point_at_the_limits(self):
        self.assertEqual(point(LIMIT, -LIMIT, w=LIMIT), (1, -1, 1))
        self.assertEqual(point(LIMIT - 1, 1 - LIMIT, w=LIMIT), (LIMIT - 1, 1 - LIMIT, LIMIT))
        self.assertEqual(point(1, 1, w=-LIMIT), (-1, -1, LIMIT))
        for x, y, w in ((LIMIT + 1, 0, 1), (-LIMIT - 1, 0, 1), (0, LIMIT + 1, 1), (0, -LIMIT - 1, 1),
                        (0, 0, LIMIT + 1), (0, 0, -LIMIT - 1), (2 * LIMIT, 2 * LIMIT, 2 * LIMIT)):
            with self.assertRaises(BadPoint):
                point(x, y, w=w)

    def test_point_of_wrong_values(self):
        for value in STRANGE:
            if isinstance(value, int) and not isinstance(value, bool) and abs(value) < LIMIT:
                continue
            for x, y, w in ((value, 1, 1), (1, value, 1), (1, 1, value), (value, value, value)):
                with self.subTest(value=value), self.assertRaises(BadPoint):
                    point(x, y, w=w)
        with self.assertRaises(BadPoint):
            point(1, 1, w=0)
        with self.assertRaises(BadPoint):
            point(0, 0, w=0)

    def test_compare(self):
        self.assertEqual(compare((1, 0, 2), (1, 0, 1)), -1)
        self.assertEqual(compare((1, 0, 1), (1, 0, 2)), 1)
        self.assertEqual(compare((1, 5, 2), (1, 5, 2)), 0)
        self.assertEqual(compare((1, 5, 2), (3, -5, 6)), 1)
        self.assertEqual(compare((-1, 0, 1), (-1, 0, 2)), -1)
        self.assertEqual(compare((LIMIT - 1, 0, LIMIT), (LIMIT - 2, 0, LIMIT - 1)), 1)

    def test_compare_like_fractions(self):
        rows = seeded(1)
        for _ in range(500):
            a, b = some_point(rows, 3, 1, 9), some_point(rows, 3, 1, 9)
            here, there = at(a), at(b)
            self.assertEqual(compare(a, b), (here > there) - (here < there))

    def test_distance2(self):
        self.assertEqual(distance2((0, 0, 1), (1, 1, 2)), (1, 2))
        self.assertEqual(distance2((1, 1, 2), (1, 1, 2)), (0, 1))
        self.assertEqual(distance2((0, 3, 1), (4, 0, 1)), (25, 1))
        self.assertEqual(distance2((-LIMIT, 0, 1), (LIMIT, 0, 1)), (4 * LIMIT ** 2, 1))
        rows = seeded(2)
        for _ in range(300):
            a, b = some_point(rows, 9, 1, 9), some_point(rows, 9, 1, 9)
            (x, y), (u, v) = at(a), at(b)
            self.assertEqual(distance2(a, b), rat((x - u) ** 2 + (y - v) ** 2))

    def test_ranked(self):
        self.assertEqual(ranked(((3, 0, 1), (1, 5, 1), (1, 2, 1))), (2, 1, 0))
        self.assertEqual(ranked(((7, 1, 77),)), (0,))
        rows = seeded(3)
        for many in (1, 2, 7, 40):
            points = some_points(rows, many, 6, 9)
            found = ranked(points)
            self.assertEqual(list(found), sorted(range(many), key=lambda k: at(points[k])))
            self.assertIsInstance(found, tuple)

    def test_wrong_points(self):
        good = (1, 2, 1)
        for call in (compare, distance2):
            self.bad_point(call, (), (good,))
            self.bad_point(call, (good,), ())
            self.bad_point(call, (), (None,))

    def test_wrong_lists(self):
        self.bad_points(ranked, (), ())

    def test_list_at_the_limits(self):
        far = ((LIMIT, LIMIT, 1), (-LIMIT, -LIMIT, 1), (1, 1, LIMIT), (LIMIT - 1, -LIMIT, LIMIT - 3))
        self.assertEqual(sorted(ranked(far)), [0, 1, 2, 3])
        self.assertEqual(ranked(tuple((k, 0, 1) for k in range(40))), tuple(range(40)))

    def test_arguments_stay(self):
        value = [[(1, 2, 1)], {"a": [1]}]
        before = copy.deepcopy(value)
        with self.assertRaises(ValueError):
            ranked(value)
        self.assertEqual(value, before)
