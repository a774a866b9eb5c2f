"""Promise [5]: circles through three points."""

from fractions import Fraction

from meshcore.circles import circle_side, circumcenter, radius2
from meshcore.errors import BadPoint, Collinear
from tests.helpers import BAD_POINTS, LIMIT, Checked, at, cross, of, rat, seeded, sign, some_point


def center_and_square(a, b, c):
    """The center and the squared radius with fractions, by Cramer's rule."""
    (ax, ay), (bx, by), (cx, cy) = at(a), at(b), at(c)
    bx, by, cx, cy = bx - ax, by - ay, cx - ax, cy - ay
    double = 2 * (bx * cy - by * cx)
    x = (cy * (bx ** 2 + by ** 2) - by * (cx ** 2 + cy ** 2)) / double
    y = (bx * (cx ** 2 + cy ** 2) - cx * (bx ** 2 + by ** 2)) / double
    return (x + ax, y + ay), x ** 2 + y ** 2


class Circles(Checked):

    def test_ordinary(self):
        a, b, c = (0, 0, 1), (4, 0, 1), (0, 2, 1)
        self.assertEqual(circumcenter(a, b, c), (2, 1, 1))
        self.assertEqual(radius2(a, b, c), (5, 1))
        for one, two, three in ((a, b, c), (a, c, b), (c, a, b)):
            self.assertEqual(circle_side(one, two, three, (4, 2, 1)), 0)
            self.assertEqual(circle_side(one, two, three, (2, 1, 1)), 1)
            self.assertEqual(circle_side(one, two, three, (5, 2, 1)), -1)
            self.assertEqual(circle_side(one, two, three, a), 0)

    def test_far_points(self):
        a, b, c = (-LIMIT, 0, 1), (LIMIT, 0, 1), (0, LIMIT, 1)
        self.assertEqual(circumcenter(a, b, c), (0, 0, 1))
        self.assertEqual(circle_side(a, b, c, (0, -LIMIT, 1)), 0)
        self.assertEqual(circle_side(a, b, c, (1, 1 - LIMIT, 1)), 1)
        self.assertEqual(circle_side(a, b, c, (1, -LIMIT, 1)), -1)
        flat = ((0, 0, 1), (LIMIT, 1, 1), (-LIMIT, 1, 1))
        self.assertEqual(radius2(*flat), rat(center_and_square(*flat)[1]))
        self.assertEqual(circumcenter(*flat), of(*center_and_square(*flat)[0]))

    def test_like_fractions(self):
        rows = seeded(7)
        sides = set()
        for _ in range(2000):
            a, b, c, d = (some_point(rows, 3, 1, 3) for _ in range(4))
            if cross(at(a), at(b), at(c)) == 0:
                self.raised(Collinear, circumcenter, a, b, c)
                continue
            (x, y), square = center_and_square(a, b, c)
            self.assertEqual(circumcenter(a, b, c), of(x, y))
            self.assertEqual(radius2(a, b, c), rat(square))
            gap = (at(d)[0] - x) ** 2 + (at(d)[1] - y) ** 2
            self.assertEqual(circle_side(a, b, c, d), sign(square - gap))
            sides.add(sign(square - gap))
        self.assertEqual(sides, {-1, 0, 1})

    def test_centers_with_ratios(self):
        a, b, c = (0, 0, 1), (1, 0, 2), (1, 1, 3)
        (x, y), square = center_and_square(a, b, c)
        self.assertEqual((x, y), (Fraction(1, 4), Fraction(1, 12)))
        self.assertEqual(circumcenter(a, b, c), (3, 1, 12))
        self.assertEqual(radius2(a, b, c), rat(square))

    def test_collinear(self):
        p, q = (1, 1, 1), (3, 2, 1)
        for a, b, c in ((p, q, (5, 3, 1)), (p, p, q), (p, q, p), (q, p, p), (p, p, p)):
            self.raised(Collinear, circumcenter, a, b, c)
            self.raised(Collinear, radius2, a, b, c)
            self.raised(Collinear, circle_side, a, b, c, (0, 0, 1))
            # the three points stand to the left of the fourth one
            self.raised(Collinear, circle_side, a, b, c, None)

    def test_wrong_points(self):
        good = ((0, 0, 1), (4, 0, 1), (0, 2, 1), (5, 5, 1))
        for call, many in ((circumcenter, 3), (radius2, 3), (circle_side, 4)):
            for place in range(many):
                self.bad_point(call, good[:place], good[place + 1:many])
        for value in BAD_POINTS:
            self.raised(BadPoint, circle_side, value, (1, 1, 1), (1, 1, 1), None)
            self.raised(BadPoint, circumcenter, (1, 1, 1), (1, 1, 1), value)
