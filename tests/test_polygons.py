"""Promise [7]: polygons and their flaws, areas, sides, counts of integer points."""

from fractions import Fraction
from itertools import product

from meshcore.errors import BadPoint, BadPolygon, NotLattice, TooMany
from meshcore.polygons import area, lattice_counts, polygon_flaw, side
from meshcore.segments import meeting
from tests.helpers import BAD_POINTS, LIMIT, STRANGE, Checked, at, cross, deep, plain, rat, seeded, some_points

SQUARE = plain((0, 0), (4, 0), (4, 4), (0, 4))
DART = plain((0, 0), (4, 1), (8, 0), (4, 6))
COMB = plain((0, 0), (9, 0), (9, 5), (7, 5), (7, 1), (5, 1), (5, 5), (3, 5), (3, 1), (1, 4), (0, 5))


def shoelace(corners):
    return sum(cross((0, 0), at(corners[k - 1]), at(corners[k])) for k in range(len(corners))) / 2


def side_by_ray(corners, p):
    """Where p lies, by the edges that a ray to the right meets."""
    x, y = at(p)
    inside = False
    for k, corner in enumerate(corners):
        (ax, ay), (bx, by) = at(corners[k - 1]), at(corner)
        double = cross((ax, ay), (bx, by), (x, y))
        if double == 0 and min(ax, bx) <= x <= max(ax, bx) and min(ay, by) <= y <= max(ay, by):
            return 0
        if (ay > y) != (by > y) and x < ax + (y - ay) / (by - ay) * (bx - ax):
            inside = not inside
    return 1 if inside else -1


def flaw_by_words(corners):
    """The flaw of a tuple of points, read off the document."""
    many = len(corners)
    for i in range(many):
        for j in range(i + 1, many):
            if corners[i] == corners[j]:
                return ("equal", i, j)
    for i in range(many):
        if cross(at(corners[i - 1]), at(corners[i]), at(corners[(i + 1) % many])) == 0:
            return ("straight", i)
    for i in range(many):
        for j in range(i + 1, many):
            common = meeting(corners[i], corners[(i + 1) % many], corners[j], corners[(j + 1) % many])
            allowed = ()
            if j == i + 1:
                allowed = (corners[j],)
            if (i, j) == (0, many - 1):
                allowed += (corners[0],)
            if not set(common) <= set(allowed):
                return ("meeting", i, j)
    if shoelace(corners) < 0:
        return ("clockwise",)
    return None


class Polygons(Checked):

    def test_polygons(self):
        wheel = tuple((k, k * k, 1) for k in range(40))
        for corners in (SQUARE, DART, COMB, SQUARE[:3], wheel, ((0, 0, 1), (1, 0, 7), (0, 1, 5))):
            self.assertIsNone(polygon_flaw(corners))
            self.assertIsNone(polygon_flaw(corners[1:] + corners[:1]))
            self.assertEqual(polygon_flaw(corners[::-1]), ("clockwise",))

    def test_shape(self):
        for value in STRANGE + (SQUARE[:2], SQUARE[:1], list(SQUARE), tuple((k, k * k, 1) for k in range(41))):
            told = None
            if isinstance(value, tuple) and 3 <= len(value) <= 40:
                told = 0
            self.assertEqual(polygon_flaw(value), ("shape", told))
        for value in BAD_POINTS + (deep(5000),):
            self.assertEqual(polygon_flaw(SQUARE + (value,)), ("shape", 4))
            self.assertEqual(polygon_flaw(SQUARE[:1] + (value,) + SQUARE[1:] + (None,)), ("shape", 1))
            self.assertEqual(polygon_flaw((value, value, value)), ("shape", 0))
        # before all other flaws
        self.assertEqual(polygon_flaw((SQUARE[0],) * 3 + (5,)), ("shape", 3))

    def test_equal(self):
        self.assertEqual(polygon_flaw(SQUARE + SQUARE[:1]), ("equal", 0, 4))
        self.assertEqual(polygon_flaw(plain((0, 0), (4, 0), (4, 4), (4, 0), (0, 0))), ("equal", 0, 4))
        self.assertEqual(polygon_flaw(plain((0, 0), (1, 0), (1, 0), (2, 0))), ("equal", 1, 2))
        self.assertEqual(polygon_flaw((SQUARE[0],) * 5), ("equal", 0, 1))

    def test_straight(self):
        self.assertEqual(polygon_flaw(plain((0, 0), (2, 0), (4, 0), (4, 4))), ("straight", 1))
        self.assertEqual(polygon_flaw(plain((2, 0), (4, 0), (4, 4), (0, 0))), ("straight", 0))
        self.assertEqual(polygon_flaw(plain((4, 0), (4, 4), (0, 0), (2, 0))), ("straight", 3))
        # a spike, and a straight corner behind edges that cross
        self.assertEqual(polygon_flaw(plain((0, 0), (4, 0), (2, 0), (2, 4))), ("straight", 1))
        self.assertEqual(polygon_flaw(plain((0, 0), (4, 4), (4, 0), (2, 1), (0, 2))), ("straight", 3))
        self.assertEqual(polygon_flaw(plain((0, 0), (1, 1), (2, 2))), ("straight", 0))

    def test_meeting(self):
        self.assertEqual(polygon_flaw(plain((0, 0), (4, 4), (4, 0), (0, 4))), ("meeting", 0, 2))
        self.assertEqual(polygon_flaw(plain((0, 0), (4, 0), (0, 4), (4, 4))), ("meeting", 1, 3))
        # a corner on an edge
        self.assertEqual(polygon_flaw(plain((0, 0), (4, 0), (4, 4), (2, 0), (0, 4))), ("meeting", 0, 2))
        # edges on one line
        turned = plain((0, 0), (6, 0), (6, 2), (4, 0), (2, 0), (0, 2))
        self.assertEqual(polygon_flaw(turned), ("meeting", 0, 2))
        apart = plain((0, 0), (6, 0), (6, 4), (4, 4), (4, 6), (6, 6), (6, 9), (0, 9))
        self.assertIsNone(polygon_flaw(apart))
        # clockwise, too
        self.assertEqual(polygon_flaw(plain((0, 4), (4, 0), (4, 4), (0, 0))), ("meeting", 0, 2))

    def test_like_the_words(self):
        rows = seeded(11)
        kinds = set()
        for _ in range(3000):
            many = rows.randint(3, 6)
            corners = some_points(rows, many, 3, 2)
            if rows.random() < 0.2:
                corners += (rows.choice(corners),)
            told = flaw_by_words(corners)
            self.assertEqual(polygon_flaw(corners), told)
            if told is None:
                self.assertEqual(area(corners), rat(shoelace(corners)))
            else:
                self.raised(BadPolygon, area, corners)
            kinds.add(told and told[0])
        self.assertEqual(kinds, {None, "equal", "straight", "meeting", "clockwise"})

    def test_area(self):
        self.assertEqual(area(SQUARE), (16, 1))
        self.assertEqual(area(DART), (20, 1))
        self.assertEqual(area(((0, 0, 1), (1, 0, 2), (0, 1, 3))), (1, 12))
        self.assertEqual(area(COMB), rat(shoelace(COMB)))
        wide = plain((-LIMIT, -LIMIT), (LIMIT, -LIMIT), (LIMIT, LIMIT), (-LIMIT, LIMIT))
        self.assertEqual(area(wide), (4 * LIMIT ** 2, 1))

    def test_side(self):
        self.assertEqual(side(DART, (4, 0, 1)), -1)
        self.assertEqual(side(DART, (4, 1, 1)), 0)
        self.assertEqual(side(DART, (4, 1, 2)), 0)
        self.assertEqual(side(DART, (2, 1, 2)), 1)
        self.assertEqual(side(DART, (8, 1, 4)), -1)
        self.assertEqual(side(DART, (4, 2, 1)), 1)
        self.assertEqual(side(SQUARE, (0, 4, 1)), 0)
        self.assertEqual(side(SQUARE, (4, 1, 3)), 1)
        self.assertEqual(side(SQUARE, (LIMIT, 4, 1)), -1)
        self.assertEqual(side(SQUARE, (-1, 4, LIMIT)), -1)
        self.assertEqual(side(SQUARE, (1, 1, LIMIT)), 1)
        for x, y, w in product(range(-2, 22), range(-2, 14), (1, 2)):
            if w == 2 and x % 2 == 0 and y % 2 == 0:
                continue
            for corners in (SQUARE, DART, COMB):
                self.assertEqual(side(corners, (x, y, w)), side_by_ray(corners, (x, y, w)))

    def test_lattice_counts(self):
        self.assertEqual(lattice_counts(DART), (18, 6))
        self.assertEqual(lattice_counts(SQUARE), (9, 16))
        self.assertEqual(lattice_counts(plain((0, 0), (1, 0), (0, 1))), (0, 3))
        self.assertEqual(lattice_counts(plain((-3, -3), (-1, -3), (-3, -1))), (0, 6))
        for corners in (SQUARE, DART, COMB, COMB[2:] + COMB[:2]):
            sides = [side_by_ray(corners, (x, y, 1)) for x in range(-1, 11) for y in range(-1, 8)]
            self.assertEqual(lattice_counts(corners), (sides.count(1), sides.count(0)))

    def test_lattice_counts_of_many(self):
        self.assertEqual(lattice_counts(plain((0, 0), (99, 0), (99, 99), (0, 99))), (98 * 98, 396))
        for corners in (plain((0, 0), (72, 0), (0, 136)), plain((0, 0), (100, 0), (100, 99)),
                        plain((0, 0), (LIMIT, 1), (0, 1)), plain((-5000, 0), (5000, 1), (0, 1))):
            self.raised(TooMany, lattice_counts, corners, most=10000)
        # 73 * 136 points
        self.assertEqual(lattice_counts(plain((0, 0), (72, 0), (0, 135)))[1], 72 + 135 + 9)

    def test_not_lattice(self):
        self.raised(NotLattice, lattice_counts, ((0, 0, 1), (1, 0, 2), (0, 1, 1)))
        self.raised(NotLattice, lattice_counts, ((0, 1, 2), (LIMIT, 0, 1), (0, LIMIT, 1)))
        self.raised(NotLattice, lattice_counts, ((0, 0, 1), (9, 0, 1), (1, 1, 2)))

    def test_wrong_arguments(self):
        crossed = plain((0, 0), (4, 4), (4, 0), (0, 4))
        wrong = (crossed, SQUARE[::-1], SQUARE + SQUARE[:1], plain((0, 0), (2, 0), (4, 0), (4, 4)), SQUARE[:2])
        for value in STRANGE + wrong + (list(SQUARE), deep(5000)):
            for call, rest in ((area, ()), (lattice_counts, ()), (side, ((1, 1, 1),)), (side, (None,))):
                with self.subTest(value=value):
                    self.raised(BadPolygon, call, value, *rest)
        self.bad_point(side, (SQUARE,), ())
        self.raised(BadPoint, side, SQUARE, SQUARE)
        # half corners of a value that is no polygon
        self.raised(BadPolygon, lattice_counts, ((1, 1, 2), (1, 1, 2), (0, 0, 1)))
        self.assertEqual(area(((0, 0, 1), (1, 1, 2), (0, 1, 1))), rat(Fraction(1, 4)))
