"""Promise [3]: turns, areas, points on segments."""

from meshcore.turns import area2, between, turn
from tests.helpers import LIMIT, Checked, at, cross, rat, seeded, sign, some_point


class Turns(Checked):

    def test_turn(self):
        self.assertEqual(turn((0, 0, 1), (1, 0, 1), (0, 1, 1)), 1)
        self.assertEqual(turn((0, 0, 1), (0, 1, 1), (1, 0, 1)), -1)
        self.assertEqual(turn((0, 0, 1), (1, 1, 2), (3, 3, 1)), 0)
        self.assertEqual(turn((0, 0, 1), (0, 0, 1), (3, 3, 1)), 0)
        self.assertEqual(turn((1, 1, 3), (1, 1, 3), (1, 1, 3)), 0)

    def test_turn_of_far_points(self):
        a, b = (-LIMIT, -LIMIT, 1), (LIMIT, LIMIT, 1)
        self.assertEqual(turn(a, b, (0, 1, LIMIT)), 1)
        self.assertEqual(turn(a, b, (0, -1, LIMIT)), -1)
        self.assertEqual(turn(a, b, (1, 1, LIMIT)), 0)
        self.assertEqual(turn((LIMIT, LIMIT, LIMIT - 1), (LIMIT - 1, LIMIT - 1, LIMIT), (0, 0, 1)), 0)

    def test_area2(self):
        self.assertEqual(area2((0, 0, 1), (4, 0, 1), (0, 3, 1)), (12, 1))
        self.assertEqual(area2((0, 0, 1), (0, 3, 1), (4, 0, 1)), (-12, 1))
        self.assertEqual(area2((0, 0, 1), (1, 0, 2), (0, 1, 3)), (1, 6))
        self.assertEqual(area2((0, 0, 1), (2, 2, 1), (1, 1, 1)), (0, 1))
        self.assertEqual(area2((0, 0, 1), (1, 0, LIMIT), (0, 1, LIMIT)), (1, LIMIT ** 2))

    def test_like_fractions(self):
        rows = seeded(4)
        for _ in range(500):
            a, b, c = (some_point(rows, 5, 1, 9) for _ in range(3))
            double = cross(at(a), at(b), at(c))
            self.assertEqual(area2(a, b, c), rat(double))
            self.assertEqual(turn(a, b, c), sign(double))
            self.assertIs(turn(a, b, c).__class__, int)

    def test_between(self):
        a, b = (0, 0, 1), (4, 2, 1)
        self.assertIs(between(a, b, (2, 1, 1)), True)
        self.assertIs(between(a, b, (1, 1, 2)), False)
        self.assertIs(between(a, b, (2, 1, 2)), True)
        self.assertIs(between(a, b, a), True)
        self.assertIs(between(b, a, a), True)
        self.assertIs(between(a, b, b), True)
        self.assertIs(between(a, b, (6, 3, 1)), False)
        self.assertIs(between(a, b, (-2, -1, 1)), False)
        self.assertIs(between(a, a, a), True)
        self.assertIs(between(a, a, b), False)
        self.assertIs(between((0, 0, 1), (0, 5, 1), (0, 3, 1)), True)
        self.assertIs(between((0, 0, 1), (0, 5, 1), (0, 6, 1)), False)
        self.assertIs(between((0, 5, 1), (0, 0, 1), (0, -1, 1)), False)

    def test_between_like_fractions(self):
        rows = seeded(5)
        for _ in range(2000):
            a, b, p = (some_point(rows, 2, 1, 2) for _ in range(3))
            (ax, ay), (bx, by), (px, py) = at(a), at(b), at(p)
            told = cross(at(a), at(b), at(p)) == 0
            told = told and min(ax, bx) <= px <= max(ax, bx) and min(ay, by) <= py <= max(ay, by)
            self.assertIs(between(a, b, p), told)

    def test_wrong_points(self):
        good = (1, 2, 1)
        for call in (turn, area2, between):
            self.bad_point(call, (), (good, good))
            self.bad_point(call, (good,), (good,))
            self.bad_point(call, (good, good), ())
            self.bad_point(call, (), (None, None))
