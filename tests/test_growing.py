"""Promises [29] and [30]: births of the Delaunay cells, the complex, its parts, holes and ranks."""

from fractions import Fraction
from itertools import combinations

from meshcore.growing import births, complex_at, hole_count, part_count, ranks_at
from tests.disks import CheckedDisks, circle, critical, gap, inside, middle_of, mixed_rank, some_generic
from tests.helpers import LIMIT, at, frac, on_curve, plain, rat, seeded

THREE = plain((0, 0), (4, 1), (1, 3))
WIDE = plain((0, 0), (10, 0), (4, 1))


def births_by_words(points):
    """All Delaunay cells with their births as fractions, as the document tells them."""
    spots = [at(p) for p in points]
    many = len(points)
    triples = [row for row in combinations(range(many), 3) if not inside(spots, row)]
    pairs = [row for row in combinations(range(many), 2) if any(set(row) < set(other) for other in triples)]
    singles = [(k,) for k in range(many) if any(k in other for other in triples)]
    if many <= 2:
        singles, pairs = [(k,) for k in range(many)], list(combinations(range(many), 2))
    found = [(Fraction(0), row) for row in singles]
    for row in triples:
        found.append((circle(*[spots[k] for k in row])[1], row))
    for i, j in pairs:
        center, square = middle_of(spots[i], spots[j]), gap(spots[i], spots[j]) / 4
        if any(gap(center, p) < square for k, p in enumerate(spots) if k not in (i, j)):
            square = min(birth for birth, row in found if len(row) == 3 and i in row and j in row)
        found.append((square, (i, j)))
    return sorted(found, key=lambda row: (row[0], len(row[1]), row[1]))


def parts_by_search(many, pairs):
    """The number of connected parts, by a walk from each point that is left."""
    left = set(range(many))
    count = 0
    while left:
        count += 1
        todo = [left.pop()]
        while todo:
            k = todo.pop()
            for pair in pairs:
                if k in pair:
                    other = sum(pair) - k
                    if other in left:
                        left.remove(other)
                        todo.append(other)
    return count


def free_parts(cells, all_cells):
    """The connected parts of what a complex leaves free of the plane: triples and the outside, None."""
    triples = [row for row in all_cells if len(row) == 3]
    free = [row for row in triples if row not in cells] + [None]
    joins = []
    for pair in [row for row in all_cells if len(row) == 2 and row not in cells]:
        sides = [row for row in triples if set(pair) < set(row)] + [None]
        joins.append((free.index(sides[0]), free.index(sides[1])) if len(sides) > 1 else (len(free) - 1,) * 2)
    return parts_by_search(len(free), [pair for pair in joins if pair[0] != pair[1]])


class Births(CheckedDisks):

    def test_ordinary(self):
        told = (((5, 2), (0, 2)), ((13, 4), (1, 2)), ((17, 4), (0, 1)), ((1105, 242), (0, 1, 2)))
        self.assertEqual(births(THREE), (((0, 1), (0,)), ((0, 1), (1,)), ((0, 1), (2,))) + told)
        thirds = tuple((x, y, 3) for x, y, _ in plain((1, 0), (4, 1), (1, 4)))
        self.assertEqual(births(thirds)[3], ((5, 18), (0, 1)))

    def test_one_point_and_two(self):
        self.assertEqual(births(plain((3, 7))), (((0, 1), (0,)),))
        self.assertEqual(births(((1, 2, 3),)), (((0, 1), (0,)),))
        self.assertEqual(births(plain((0, 0), (1, 2))), (((0, 1), (0,)), ((0, 1), (1,)), ((5, 4), (0, 1))))
        self.assertEqual(births(((0, 0, 1), (0, 1, 2)))[2], ((1, 16), (0, 1)))

    def test_longest_side_with_the_triangle(self):
        found = births(WIDE)
        self.assertEqual([cell for _, cell in found], [(0,), (1,), (2,), (0, 2), (1, 2), (0, 1), (0, 1, 2)])
        self.assertEqual(found[5][0], found[6][0])
        self.assertEqual(found[6][0], (629, 4))

    def test_equal_births_in_the_order_of_cells(self):
        found = births(plain((0, 0), (8, 1), (12, 8), (4, 7), (30, 11)))
        self.assertEqual([cell for birth, cell in found if birth == (65, 4)], [(0, 1), (0, 3), (1, 2), (2, 3)])
        self.assertEqual([cell for birth, cell in found if birth == (325, 16)], [(0, 1, 3), (1, 2, 3)])
        self.assertEqual([cell for birth, cell in found if birth == (175565, 722)], [(1, 4), (1, 2, 4)])

    def test_like_the_words(self):
        rows = seeded(81)
        for many, size, most in ((1, 3, 2), (2, 3, 2), (3, 4, 3), (4, 6, 1), (5, 6, 2), (7, 12, 1), (9, 20, 2),
                                 (12, 40, 1), (12, LIMIT, LIMIT)):
            for _ in range(5):
                points = some_generic(rows, many, size, most)
                told = tuple((rat(birth), cell) for birth, cell in births_by_words(points))
                self.assertEqual(births(points), told)

    def test_parts_of_cells_are_born_first(self):
        rows = seeded(82)
        for _ in range(10):
            points = some_generic(rows, 8)
            born = {cell: frac(birth) for birth, cell in births(points)}
            for cell in born:
                for size in range(1, len(cell)):
                    for part in combinations(cell, size):
                        self.assertLessEqual(born[part], born[cell])

    def test_wrong(self):
        self.bad_growing(births)


class Complex(CheckedDisks):

    def test_ordinary(self):
        singles = ((0,), (1,), (2,))
        self.assertEqual(complex_at(THREE, (0, 1)), singles)
        self.assertEqual(complex_at(THREE, (249, 100)), singles)
        self.assertEqual(complex_at(THREE, (5, 2)), ((0,), (0, 2), (1,), (2,)))
        self.assertEqual(complex_at(THREE, (251, 100)), ((0,), (0, 2), (1,), (2,)))
        self.assertEqual(complex_at(THREE, (13, 4)), ((0,), (0, 2), (1,), (1, 2), (2,)))
        self.assertEqual(complex_at(THREE, (9, 2)), ((0,), (0, 1), (0, 2), (1,), (1, 2), (2,)))
        self.assertEqual(complex_at(THREE, (1105, 242)), ((0,), (0, 1), (0, 1, 2), (0, 2), (1,), (1, 2), (2,)))
        self.assertEqual(complex_at(THREE, (10 ** 30, 1)), complex_at(THREE, (1105, 242)))
        self.assertEqual(complex_at(plain((5, 5)), (0, 1)), ((0,),))
        self.assertEqual(complex_at(plain((0, 0), (1, 2)), (5, 4)), ((0,), (0, 1), (1,)))

    def test_like_the_words(self):
        rows = seeded(83)
        for many, size, most in ((1, 3, 1), (2, 4, 2), (4, 9, 1), (6, 9, 2), (9, 20, 1)):
            points = some_generic(rows, many, size, most)
            born = births_by_words(points)
            for r in critical([birth for birth, _ in born]):
                told = tuple(sorted(cell for birth, cell in born if birth <= r))
                self.assertEqual(complex_at(points, rat(r)), told)

    def test_wrong(self):
        self.bad_both(complex_at)


class Counts(CheckedDisks):

    def test_ordinary(self):
        for r, parts, holes in (((0, 1), 3, 0), ((5, 2), 2, 0), ((3, 1), 2, 0), ((13, 4), 1, 0), ((4, 1), 1, 0),
                                ((17, 4), 1, 1), ((9, 2), 1, 1), ((1105, 242), 1, 0), ((99, 1), 1, 0)):
            self.assertEqual((part_count(THREE, r), hole_count(THREE, r)), (parts, holes))
        self.assertEqual((part_count(plain((9, 9)), (4, 1)), hole_count(plain((9, 9)), (4, 1))), (1, 0))
        self.assertEqual(ranks_at(plain((9, 9)), (4, 1)), (0, 0))
        self.assertEqual(ranks_at(THREE, (9, 2)), (2, 0))
        self.assertEqual(ranks_at(THREE, (5, 1)), (2, 1))

    def test_a_ring_with_a_hole(self):
        ring = plain((0, 0), (10, 1), (19, 6), (21, 17), (12, 25), (1, 22), (-5, 11))
        rows = [(part_count(ring, (r, 1)), hole_count(ring, (r, 1))) for r in (0, 20, 30, 45, 130, 200)]
        self.assertEqual(rows[0], (7, 0))
        self.assertIn((1, 1), rows)
        self.assertEqual(rows[-1], (1, 0))

    def test_like_the_words(self):
        rows = seeded(84)
        for many, size, most in ((1, 3, 1), (2, 4, 2), (3, 6, 1), (5, 9, 1), (6, 9, 2), (8, 20, 1), (10, 30, 1)):
            for _ in range(3):
                points = some_generic(rows, many, size, most)
                self.counts_hold(points, births_by_words(points))
        self.counts_hold(on_curve(6)[1:], births_by_words(on_curve(6)[1:]))

    def counts_hold(self, points, born):
        spots = [at(p) for p in points]
        pairs = list(combinations(range(len(points)), 2))
        all_cells = [cell for _, cell in born]
        for r in critical([birth for birth, _ in born]):
            cells = [cell for birth, cell in born if birth <= r]
            near = [(i, j) for i, j in pairs if gap(spots[i], spots[j]) <= 4 * r]
            parts, holes = part_count(points, rat(r)), hole_count(points, rat(r))
            self.assertEqual(parts, parts_by_search(len(points), near))
            self.assertEqual(holes, free_parts(cells, all_cells) - 1)
            triples = [list(combinations(cell, 2)) for cell in cells if len(cell) == 3]
            lines = [cell for cell in cells if len(cell) == 2]
            self.assertEqual(ranks_at(points, rat(r)), (mixed_rank(lines), mixed_rank(triples)))
            self.assertEqual(parts, len(points) - mixed_rank(lines))
            self.assertEqual(holes, len(lines) - mixed_rank(lines) - mixed_rank(triples))

    def test_wrong(self):
        for call in (part_count, hole_count, ranks_at):
            self.bad_both(call)
