"""Promise [4]: what two segments have in common."""

from fractions import Fraction

from meshcore.segments import crosses, meeting
from tests.helpers import LIMIT, Checked, at, cross, of, plain, seeded, some_point


def by_parts(a, b, c, d):
    """The common part by its parameters on the one segment, with fractions."""
    a, b, c, d = at(a), at(b), at(c), at(d)
    if a == b:
        a, b, c, d = c, d, a, b
    if a == b:
        return (of(*a),) if a == c else ()
    way = (b[0] - a[0], b[1] - a[1])
    long = way[0] ** 2 + way[1] ** 2
    here, there = cross(a, b, c), cross(a, b, d)
    if here == there == 0:
        parts = sorted(((p[0] - a[0]) * way[0] + (p[1] - a[1]) * way[1]) / long for p in (c, d))
        low, high = max(parts[0], 0), min(parts[1], 1)
    elif here == there or here * there > 0:
        return ()
    else:
        part = here / (here - there)
        p = (c[0] + part * (d[0] - c[0]), c[1] + part * (d[1] - c[1]))
        low = high = ((p[0] - a[0]) * way[0] + (p[1] - a[1]) * way[1]) / long
    if low > high or high < 0 or low > 1:
        return ()
    ends = {(a[0] + part * way[0], a[1] + part * way[1]) for part in (Fraction(low), Fraction(high))}
    return tuple(of(*p) for p in sorted(ends))


class Segments(Checked):

    def test_crossing(self):
        a, b, c, d = plain((0, 0), (2, 2), (0, 2), (2, 0))
        self.assertEqual(meeting(a, b, c, d), ((1, 1, 1),))
        self.assertIs(crosses(a, b, c, d), True)
        self.assertIs(crosses(b, a, c, d), True)
        self.assertEqual(meeting((0, 0, 1), (3, 1, 1), (1, 0, 1), (1, 1, 1)), ((3, 1, 3),))

    def test_touching(self):
        self.assertEqual(meeting((0, 0, 1), (4, 0, 1), (2, 0, 1), (2, 5, 1)), ((2, 0, 1),))
        self.assertIs(crosses((0, 0, 1), (4, 0, 1), (2, 0, 1), (2, 5, 1)), False)
        self.assertIs(crosses((2, 0, 1), (2, 5, 1), (0, 0, 1), (4, 0, 1)), False)
        self.assertEqual(meeting((0, 0, 1), (4, 0, 1), (4, 0, 1), (2, 5, 1)), ((4, 0, 1),))
        self.assertIs(crosses((0, 0, 1), (4, 0, 1), (4, 0, 1), (2, 5, 1)), False)

    def test_apart(self):
        self.assertEqual(meeting((0, 0, 1), (4, 0, 1), (2, 1, 1), (2, 5, 1)), ())
        self.assertEqual(meeting((0, 0, 1), (4, 0, 1), (0, 1, 1), (4, 1, 1)), ())
        self.assertEqual(meeting((0, 0, 1), (4, 0, 1), (5, 0, 1), (6, 0, 1)), ())
        self.assertIs(crosses((0, 0, 1), (4, 0, 1), (2, 1, 1), (2, 5, 1)), False)

    def test_on_one_line(self):
        self.assertEqual(meeting((0, 0, 1), (4, 0, 1), (9, 0, 1), (2, 0, 1)), plain((2, 0), (4, 0)))
        self.assertEqual(meeting((4, 0, 1), (0, 0, 1), (3, 0, 1), (1, 0, 1)), plain((1, 0), (3, 0)))
        self.assertEqual(meeting((3, 0, 1), (1, 0, 1), (4, 0, 1), (0, 0, 1)), plain((1, 0), (3, 0)))
        self.assertEqual(meeting((0, 4, 1), (0, 0, 1), (0, 4, 1), (0, 0, 1)), plain((0, 0), (0, 4)))
        self.assertEqual(meeting((0, 0, 1), (4, 0, 1), (9, 0, 1), (4, 0, 1)), ((4, 0, 1),))
        self.assertIs(crosses((0, 0, 1), (4, 0, 1), (9, 0, 1), (4, 0, 1)), False)
        self.assertIs(crosses((0, 0, 1), (4, 0, 1), (9, 0, 1), (2, 0, 1)), False)

    def test_segments_that_are_points(self):
        p, q = (1, 1, 1), (2, 2, 1)
        self.assertEqual(meeting(p, p, p, p), (p,))
        self.assertEqual(meeting(p, p, q, q), ())
        self.assertEqual(meeting(p, p, (0, 0, 1), q), (p,))
        self.assertEqual(meeting((0, 0, 1), q, p, p), (p,))
        self.assertEqual(meeting(p, p, p, q), (p,))
        self.assertEqual(meeting(p, p, (0, 0, 1), (2, 1, 1)), ())
        self.assertEqual(meeting(p, p, q, (3, 3, 1)), ())
        for rows in ((p, p, p, p), (p, p, (0, 0, 1), q), ((0, 0, 1), q, p, p)):
            self.assertIs(crosses(*rows), False)

    def test_far_points(self):
        a, b = (-LIMIT, -LIMIT, 1), (LIMIT, LIMIT - 1, 1)
        c, d = (-LIMIT, LIMIT, 1), (LIMIT, -LIMIT, 1)
        self.assertEqual(meeting(a, b, c, d), by_parts(a, b, c, d))
        self.assertGreater(max(meeting(a, b, c, d)[0]), LIMIT)
        self.assertIs(crosses(a, b, c, d), True)

    def test_like_fractions(self):
        rows = seeded(6)
        kinds = set()
        for _ in range(4000):
            a, b, c, d = (some_point(rows, 2, 1, 2) for _ in range(4))
            told = by_parts(a, b, c, d)
            self.assertEqual(meeting(a, b, c, d), told)
            proper = len(told) == 1 and told[0] not in (a, b, c, d)
            self.assertIs(crosses(a, b, c, d), proper)
            kinds.add((len(told), proper))
        self.assertEqual(len(kinds), 4)

    def test_wrong_points(self):
        good = (1, 2, 1)
        for call in (meeting, crosses):
            for place in range(4):
                self.bad_point(call, (good,) * place, (good,) * (3 - place))
            self.bad_point(call, (), (None, 1, "2"))
