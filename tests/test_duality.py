"""Promise [14]: lines, duality, levels."""

from fractions import Fraction
from itertools import combinations

from meshcore.duality import above, dual_of_line, dual_of_point, level_corners
from meshcore.errors import BadLine, BadLines, BadNumber, BadPoint
from tests.helpers import LIMIT, STRANGE, Checked, at, deep, frac, of, rat, seeded, sign, some_point

FLAT = ((0, 1), (0, 1))
STEEP = ((7, 2), (-1, 3))
BIG = 10 ** 40

# None of these is a line; the first item is the slope.
BAD_LINES = STRANGE + (
    ((0, 1),), ((0, 1), (0, 1), (0, 1)), [(0, 1), (0, 1)], ((0, 1), 0), (0, (0, 1)), ((0, 1), None),
    ((0, 1), (0, 0)), ((0, 2), (0, 1)), ((1, -1), (0, 1)), ((0, 1), (2, 4)), ((True, 1), (0, 1)),
    ((0, 1), (1, True)), ((0, 1), [0, 1]), ([0, 1], (0, 1)), ((0, 1, 1), (0, 1)), ((0,), (0, 1)),
    (("0", 1), (0, 1)), ((0, 1), (1, None)), ((0, -1), (0, 1)), deep(50), ((0, 1), ((0, 1), 1)),
)


def some_line(rows, size=3, most=2):
    m = Fraction(rows.randint(-size, size), rows.randint(1, most))
    return (rat(m), rat(Fraction(rows.randint(-size, size), rows.randint(1, most))))


def some_lines(rows, many, size=3, most=2):
    found = []
    while len(found) < many:
        line = some_line(rows, size, most)
        if line[0] not in [one[0] for one in found]:
            found.append(line)
    return tuple(found)


def height(line, x):
    return frac(line[0]) * x + frac(line[1])


def corners_by_words(lines, k):
    spots = set()
    for one, other in combinations(lines, 2):
        x = (frac(other[1]) - frac(one[1])) / (frac(one[0]) - frac(other[0]))
        y = height(one, x)
        if sum(height(line, x) < y for line in lines) == k:
            spots.add((x, y))
    return tuple(of(x, y) for x, y in sorted(spots))


class Duality(Checked):

    def test_above(self):
        self.assertEqual([above(FLAT, (5, y, 3)) for y in (-1, 0, 1)], [-1, 0, 1])
        self.assertEqual([above(STEEP, of(2, Fraction(20, 3) + d)) for d in (-1, 0, 1)], [-1, 0, 1])
        near = (1, LIMIT)
        self.assertEqual([above(((0, 1), near), (7, y, LIMIT)) for y in (0, 1, 2)], [-1, 0, 1])

    def test_above_like_fractions(self):
        rows = seeded(60)
        kinds = []
        for _ in range(400):
            line, p = some_line(rows), some_point(rows, 3, 1, 2)
            x, y = at(p)
            kinds.append(above(line, p))
            self.assertEqual(kinds[-1], sign(y - height(line, x)))
        self.assertEqual(set(kinds), {-1, 0, 1})

    def test_lines_of_any_size(self):
        self.assertEqual(above(((0, 1), (BIG, 1)), (0, 0, 1)), -1)
        self.assertEqual(above(((-BIG, 1), (0, 1)), (1, 0, 1)), 1)
        self.assertEqual(dual_of_line(((BIG, 1), (1, BIG))), (BIG * BIG, -1, BIG))

    def test_duals(self):
        self.assertEqual(dual_of_point((0, 0, 1)), ((0, 1), (0, 1)))
        self.assertEqual(dual_of_point((4, -6, 1)), ((4, 1), (6, 1)))
        self.assertEqual(dual_of_point((2, 3, 4)), ((1, 2), (-3, 4)))
        self.assertEqual(dual_of_line(((1, 2), (1, 3))), (3, -2, 6))
        self.assertEqual(dual_of_line(((0, 1), (-5, 1))), (0, 5, 1))

    def test_duals_keep_above(self):
        rows = seeded(61)
        kinds = []
        for _ in range(300):
            line, p = some_line(rows), some_point(rows, 3, 1, 2)
            self.assertEqual(dual_of_line(line), of(frac(line[0]), -frac(line[1])))
            x, y = at(p)
            self.assertEqual(dual_of_point(p), (rat(x), rat(-y)))
            kinds.append(above(line, p))
            self.assertEqual(above(dual_of_point(p), dual_of_line(line)), kinds[-1])
            self.assertEqual(dual_of_line(dual_of_point(p)), p)
        self.assertEqual(set(kinds), {-1, 0, 1})

    def test_level_corners(self):
        star = tuple(((m, 1), (-m, 1)) for m in range(-3, 4))
        for k in range(21):
            self.assertEqual(level_corners(star, k), ((1, 0, 1),) if k == 0 else ())
        above_star = star[:3] + (((0, 1), (-5, 1)), ((9, 1), (-1, 1)))
        self.assertEqual(level_corners(above_star, 0), corners_by_words(above_star, 0))
        self.assertIn((1, 0, 1), level_corners(above_star, 1))
        below = (((1, 1), (0, 1)), ((-1, 1), (0, 1)), ((0, 1), (-1, 1)))
        self.assertEqual(level_corners(below, 1), ((0, 0, 1),))
        self.assertEqual(level_corners(below, 0), ((-1, -1, 1), (1, -1, 1)))

    def test_level_corners_of_one_line(self):
        for k in range(21):
            self.assertEqual(level_corners((STEEP,), k), ())

    def test_level_corners_like_fractions(self):
        rows = seeded(62)
        for many in (2, 3, 4, 5, 6, 9, 20):
            for size, most in ((3, 6), (9, 9)):
                lines = some_lines(rows, many, size, most)
                told = [level_corners(lines, k) for k in range(21)]
                self.assertEqual(told, [corners_by_words(lines, k) for k in range(21)])
                self.assertEqual(told[many - 1:], [()] * (22 - many))

    def test_level_corners_may_be_large(self):
        lines = (((0, 1), (1, BIG)), ((1, BIG), (0, 1)))
        self.assertEqual(level_corners(lines, 0), ((BIG, 1, BIG),))

    def test_bad_line(self):
        for value in BAD_LINES:
            with self.subTest(value=value):
                self.raised(BadLine, above, value, (1, 2, 1))
                self.raised(BadLine, above, value, None)
                self.raised(BadLine, dual_of_line, value)

    def test_bad_point(self):
        self.bad_point(above, (STEEP,), ())
        self.bad_point(dual_of_point, (), ())

    def test_bad_lines(self):
        long = tuple(((m, 1), (0, 1)) for m in range(21))
        for value in (None, True, 0, "ab", [], (), {}, [FLAT], {FLAT: 1}, long):
            for k in (0, 21, None):
                self.raised(BadLines, level_corners, value, k, index=None)
        same = ((0, 1), (5, 1))
        for value in BAD_LINES + (FLAT, STEEP, same):
            for behind in ((), (7, FLAT)):
                with self.subTest(value=value):
                    self.raised(BadLines, level_corners, (FLAT, STEEP, value) + behind, 0, index=2)
        self.raised(BadLines, level_corners, (FLAT, 5), -1, index=1)
        self.raised(BadLines, level_corners, ((),), 0, index=0)
        self.raised(BadLines, level_corners, long[:19] + (same,), 0, index=19)
        self.assertEqual(level_corners(long[:20], 0), ((0, 0, 1),))

    def test_bad_number(self):
        for k in [value for value in STRANGE if value not in (0, 1) or isinstance(value, bool)]:
            self.raised(BadNumber, level_corners, (FLAT, STEEP), k)
        for k in (-1, 21, 22, 10 ** 30, (0,), [0], "0"):
            self.raised(BadNumber, level_corners, (FLAT,), k)

    def test_leftmost(self):
        self.raised(BadPoint, above, FLAT, (0, 0))
        self.raised(BadLine, above, (0, 0), (0, 0))
