"""Promise [31]: bars of parts and of holes."""

from fractions import Fraction
from itertools import combinations

from meshcore.bars import alive, bars
from meshcore.errors import BadBars, BadRadius
from meshcore.growing import births, hole_count, part_count
from meshcore.points import distance2
from meshcore.trees import spanning_tree
from tests.disks import CheckedDisks, critical, mixed_rank, some_generic
from tests.helpers import STRANGE, deep, frac, plain, rat, seeded

THREE = plain((0, 0), (4, 1), (1, 3))
WIDE = plain((0, 0), (10, 0), (4, 1))
BAR = ((0, 1), (65, 4))


def rings(pairs):
    """A basis, modulo 2, of the sets of pairs in which each index stands evenly often."""
    rows = [({at for at in pair}, {pair}) for pair in pairs]
    found = []
    while rows:
        row, made = rows.pop()
        if not row:
            found.append(made)
            continue
        place = min(row)
        rows = [(other ^ row, two ^ made) if place in other else (other, two) for other, two in rows]
    return found


def lasting_holes(born, r, s):
    """How many independent holes of the complex at r there are still at s, by ranks modulo 2."""
    pairs = [cell for birth, cell in born if len(cell) == 2 and birth <= r]
    sums = [set(combinations(cell, 2)) for birth, cell in born if len(cell) == 3 and birth <= s]
    basis = rings(pairs)
    # the rings at r, as far as no sum of triples at s is one of them
    return mixed_rank(basis + sums) - mixed_rank(sums)


def lasting_parts(born, many, r, s):
    return many - mixed_rank([cell for birth, cell in born if len(cell) == 2 and birth <= s]) if r >= 0 else 0


def ends(bar):
    return (frac(bar[0]), Fraction(10 ** 30) if bar[1] is None else frac(bar[1]))


class Bars(CheckedDisks):

    def test_ordinary(self):
        parts = (((0, 1), (5, 2)), ((0, 1), (13, 4)), ((0, 1), None))
        self.assertEqual(bars(THREE), (parts, (((17, 4), (1105, 242)),)))

    def test_one_point_and_two(self):
        self.assertEqual(bars(plain((4, 4))), ((((0, 1), None),), ()))
        self.assertEqual(bars(plain((0, 0), (1, 2))), ((((0, 1), (5, 4)), ((0, 1), None)), ()))

    def test_no_bar_without_length(self):
        parts, holes = bars(WIDE)
        self.assertEqual(parts, (((0, 1), (17, 4)), ((0, 1), (37, 4)), ((0, 1), None)))
        self.assertEqual(holes, ())

    def test_equal_bars_stand_side_by_side(self):
        parts, holes = bars(plain((0, 0), (8, 1), (12, 8), (4, 7), (30, 11)))
        self.assertEqual(parts, (((0, 1), (13, 1)), BAR, BAR, ((0, 1), (333, 4)), ((0, 1), None)))
        self.assertEqual(holes, (((65, 4), (325, 16)),) * 2)

    def test_like_ranks(self):
        rows = seeded(85)
        for many, size in ((1, 3), (2, 3), (3, 5), (4, 6), (5, 9), (6, 12), (7, 12), (8, 20), (9, 20)):
            for _ in range(3):
                points = some_generic(rows, many, size)
                self.bars_hold(points)

    def bars_hold(self, points):
        born = [(frac(birth), cell) for birth, cell in births(points)]
        parts, holes = bars(points)
        for found in (parts, holes):
            self.assertEqual(list(found), sorted(found, key=ends))
            for bar in found:
                self.assertLess(*ends(bar))
        steps = sorted({birth for birth, _ in born})
        for k, r in enumerate(steps):
            for s in steps[k:]:
                living = [bar for bar in holes if ends(bar)[0] <= r and ends(bar)[1] > s]
                self.assertEqual(len(living), lasting_holes(born, r, s))
                living = [bar for bar in parts if ends(bar)[0] <= r and ends(bar)[1] > s]
                self.assertEqual(len(living), lasting_parts(born, len(points), r, s))

    def test_alive_as_many_as_parts_and_holes(self):
        rows = seeded(86)
        for many in (1, 2, 3, 5, 7, 10, 12):
            points = some_generic(rows, many, 40)
            parts, holes = bars(points)
            for r in critical([frac(birth) for birth, _ in births(points)]):
                self.assertEqual(alive(parts, rat(r)), part_count(points, rat(r)))
                self.assertEqual(alive(holes, rat(r)), hole_count(points, rat(r)))

    def test_deaths_are_quarters_of_a_tree(self):
        rows = seeded(87)
        for many in (2, 4, 9, 12):
            points = some_generic(rows, many, 40)
            squares = sorted(frac(distance2(points[i], points[j])) / 4 for i, j in spanning_tree(points))
            self.assertEqual([bar[1] for bar in bars(points)[0]], [rat(one) for one in squares] + [None])

    def test_wrong(self):
        self.bad_growing(bars)


class Alive(CheckedDisks):

    def test_ordinary(self):
        rows = (BAR, ((0, 1), None), ((2, 1), (3, 1)), ((2, 1), (2, 1)), ((3, 1), (2, 1)), BAR)
        for r, many in (((0, 1), 3), ((199, 100), 3), ((2, 1), 4), ((299, 100), 4), ((3, 1), 3), ((16, 1), 3),
                        ((65, 4), 1), ((10 ** 40, 1), 1)):
            self.assertEqual(alive(rows, r), many)
        self.assertEqual(alive((), (1, 1)), 0)
        self.assertEqual(alive((((-1, 1), (1, 2)),), (0, 1)), 1)

    def test_wrong_bars(self):
        for value in (None, 0, True, "", "ab", [], {}, [BAR], {BAR: True}, deep(50), (5, 2)):
            self.raised(BadBars, alive, value, (1, 1))
            self.raised(BadBars, alive, value, (-1, 1))
        wrong = STRANGE + (
            ((0, 1),), ((0, 1), (5, 2), None), [(0, 1), None], (None, None), (None, (1, 1)), ((2, 4), None),
            ((0, 1), (2, 4)), ((0, 1), 0), ((0, 1), True), (0, (1, 1)), ((0, 1), (1, 0)), ((0, 1), [1, 1]), deep(50),
            ((0, 1), ()), ((0, True), None),
        )
        for value in wrong:
            with self.subTest(value=value):
                self.raised(BadBars, alive, (BAR, value), (1, 1))
                self.raised(BadBars, alive, (value, BAR), 5)

    def test_wrong_radius(self):
        self.bad_radius(alive, (BAR,))
        self.bad_radius(alive, ())
        self.raised(BadRadius, alive, (((-1, 1), None),), (-1, 1))
