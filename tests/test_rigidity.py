"""Promise [22]: stresses, Laman's counts, opening pseudo-triangulations."""

from fractions import Fraction
from itertools import combinations

from meshcore.errors import BadEdge, BadEdges, NotPseudo
from meshcore.pointed import is_pointed
from meshcore.pseudo import all_pseudo, completed
from meshcore.rigidity import laman_flaw, opening, shows_stress, stress
from tests.helpers import LIMIT, STRANGE, Checked, at, deep, frac, on_curve, pairs_of, plain, rat, seeded
from tests.helpers import some_general
from tests.test_pseudo import INNER, SET, hull_edges

ALL = tuple(pairs_of(4))


def rank(table):
    count = 0
    while table:
        row, *rest = table
        place = next((k for k, number in enumerate(row) if number), None)
        if place is not None:
            count += 1
            rest = [[one - two * Fraction(other[place]) / row[place] for one, two in zip(other, row)] for other in rest]
        table = rest
    return count


def rigidity(points, edges):
    """A row for each edge, two columns for each point, with fractions."""
    table = []
    for i, j in edges:
        row = [Fraction(0)] * (2 * len(points))
        for side in (0, 1):
            row[2 * i + side] = at(points[i])[side] - at(points[j])[side]
            row[2 * j + side] = at(points[j])[side] - at(points[i])[side]
        table.append(row)
    return table


def laman_by_words(points, edges):
    many = len(points)
    if len(edges) != 2 * many - 3:
        return ("count",)
    for k in range(2, many + 1):
        for some in combinations(range(many), k):
            if sum(set(edge) <= set(some) for edge in edges) > 2 * k - 3:
                return ("crowd", some)
    return None


class Stresses(Checked):

    def holds(self, points, edges, value):
        self.assertIsInstance(value, tuple)
        self.assertEqual(len(value), len(edges))
        self.assertTrue(all(one.__class__ is int for one in value))
        self.assertTrue(any(value))
        for k, p in enumerate(points):
            for side in (0, 1):
                total = 0
                for (i, j), one in zip(edges, value):
                    if k in (i, j):
                        total += one * (at(points[i + j - k])[side] - at(p)[side])
                self.assertEqual(total, 0)
        self.assertIs(shows_stress(points, edges, value), True)

    def test_stress(self):
        self.assertIsNone(stress(on_curve(2), ()))
        self.assertIsNone(stress(on_curve(2), ((0, 1),)))
        self.assertIsNone(stress(INNER, SET))
        self.assertIsNone(stress(INNER, ALL[:-1]))
        for points in (INNER, on_curve(4), ((0, 0, 1), (1, 0, 3), (0, 1, 7), (5, 4, 11))):
            self.holds(points, ALL, stress(points, ALL))
        self.holds(on_curve(12), tuple(pairs_of(12)), stress(on_curve(12), tuple(pairs_of(12))))
        far = ((LIMIT, 1, 1), (-LIMIT, 3, LIMIT), (0, -LIMIT, 1), (7, LIMIT, LIMIT))
        self.holds(far, ALL, stress(far, ALL))

    def test_stress_by_ranks(self):
        rows = seeded(83)
        kinds = [0, 0]
        for many in (3, 4, 5, 6, 7):
            for _ in range(15):
                points = some_general(rows, many, 6, 2)
                pairs = pairs_of(many)
                edges = tuple(sorted(rows.sample(pairs, rows.randint(len(pairs) // 2, min(len(pairs), 2 * many - 2)))))
                found = stress(points, edges)
                kinds[found is None] += 1
                self.assertEqual(found is None, rank(rigidity(points, edges)) == len(edges))
                if found is not None:
                    self.holds(points, edges, found)
        self.assertGreater(min(kinds), 10)

    def test_a_special_place(self):
        # two triangles that are seen from one point: only there their edges have a stress
        edges = ((0, 1), (0, 2), (0, 3), (1, 2), (1, 4), (2, 5), (3, 4), (3, 5), (4, 5))
        points = plain((-1, -1), (5, -1), (0, 4), (-3, -3), (10, -2), (0, 6))
        self.holds(points, edges, stress(points, edges))
        self.assertIsNone(stress(points[:5] + plain((1, 6)), edges))

    def test_pointed_sets_have_none(self):
        rows = seeded(84)
        for many in (3, 5, 8, 12):
            points = some_general(rows, many, 20)
            edges = completed(points, ())
            self.assertIs(is_pointed(points, edges), True)
            self.assertIsNone(stress(points, edges))
            self.assertIsNone(stress(points, edges[1:]))

    def test_shows_stress(self):
        good = stress(INNER, ALL)
        self.assertEqual(shows_stress(INNER, ALL, tuple(5 * one for one in good)), True)
        self.assertEqual(shows_stress(INNER, ALL, tuple(-one for one in good)), True)
        wrong = STRANGE + (
            (0,) * 6, good[:5], good + (0,), list(good), good[::-1], (good,), deep(50), "123456",
            tuple(float(one) for one in good)[:0], {k: one for k, one in enumerate(good)}, (0,) * 5, (0,) * 7,
        )
        for value in wrong:
            self.assertIs(shows_stress(INNER, ALL, value), False)
        for k in range(6):
            for other in (good[k] + 1, -good[k], 0, None, "1", (good[k],), True, [good[k]], deep(50)):
                value = good[:k] + (other,) + good[k + 1:]
                if value != good or other is True:
                    self.assertIs(shows_stress(INNER, ALL, value), False)
        self.assertIs(shows_stress(INNER, (), ()), False)
        self.assertIs(shows_stress(INNER, SET, (0,) * 5), False)
        self.assertIs(shows_stress(on_curve(2), ((0, 1),), (1,)), False)
        self.assertIs(shows_stress(on_curve(3), ALL[:2] + ((1, 2),), (0, 0, 0)), False)

    def test_shows_stress_in_one_coordinate_only(self):
        # the sums are zero in the first coordinate (or the second one), not in the other
        points = plain((0, 0), (4, 1), (-4, 1), (0, 9))
        self.assertIs(shows_stress(points, ((0, 1), (0, 2)), (1, 1)), False)
        turned = plain((0, 0), (1, 4), (1, -4), (9, 0))
        self.assertIs(shows_stress(turned, ((0, 1), (0, 2)), (1, 1)), False)

    def test_wrong_arguments(self):
        self.bad_few(stress, ())
        self.bad_few(stress, None)
        self.bad_few(shows_stress, None, None)
        self.bad_edges(stress)
        self.bad_edges(shows_stress, (1, 2))


class Laman(Checked):

    def test_laman_flaw(self):
        self.assertIsNone(laman_flaw(on_curve(2), ((0, 1),)))
        self.assertEqual(laman_flaw(on_curve(2), ()), ("count",))
        self.assertIsNone(laman_flaw(INNER, SET))
        self.assertIsNone(laman_flaw(INNER, ALL[1:]))
        self.assertEqual(laman_flaw(INNER, ALL), ("count",))
        self.assertEqual(laman_flaw(INNER, ALL[2:]), ("count",))
        five = ALL + ((0, 4),)
        self.assertEqual(laman_flaw(on_curve(5), tuple(sorted(five))), ("crowd", (0, 1, 2, 3)))
        two = tuple(sorted(pairs_of(5)[4:] + [(4, 5), (3, 5), (0, 1)]))
        self.assertEqual(laman_flaw(on_curve(6), two), ("crowd", (1, 2, 3, 4)))

    def test_laman_by_words(self):
        rows = seeded(85)
        kinds = {}
        for many in (2, 3, 4, 5, 6, 7, 8):
            for _ in range(25):
                points = on_curve(many)
                few = pairs_of(many)[: 2 * many + 1] if rows.random() < 0.5 else pairs_of(many)
                edges = tuple(sorted(rows.sample(few, 2 * many - 3)))
                if rows.random() < 0.1:
                    edges = edges[1:]
                told = laman_by_words(points, edges)
                self.assertEqual(laman_flaw(points, edges), told)
                kind = told and told[0] + str(len(told[-1]))
                kinds[kind] = kinds.get(kind, 0) + 1
        self.assertLessEqual({None, "count5", "crowd4", "crowd5"}, set(kinds))

    def test_pseudo_triangulations_have_no_flaw(self):
        rows = seeded(86)
        for many in (5, 6):
            points = some_general(rows, many)
            for edges in all_pseudo(points):
                self.assertIsNone(laman_flaw(points, edges))
        points = some_general(rows, 12, 20)
        self.assertIsNone(laman_flaw(points, completed(points, ())))

    def test_wrong_arguments(self):
        self.bad_few(laman_flaw, ())
        self.bad_few(laman_flaw, None)
        self.bad_edges(laman_flaw)


class Openings(Checked):

    def holds(self, points, edges, edge):
        value = opening(points, edges, edge)
        self.assertIsInstance(value, tuple)
        self.assertEqual(len(value), len(points))
        spots = [at(p) for p in points]
        moves = []
        for one in value:
            self.assertIsInstance(one, tuple)
            moves.append(tuple(frac(number) for number in one))
            self.assertEqual(tuple(rat(number) for number in moves[-1]), one)
        i, j = edge
        self.assertEqual(moves[i], (0, 0))
        self.assertEqual(moves[j], (spots[j][0] - spots[i][0], spots[j][1] - spots[i][1]))
        for k, m in pairs_of(len(points)):
            product = sum((moves[m][side] - moves[k][side]) * (spots[m][side] - spots[k][side]) for side in (0, 1))
            if (k, m) in edges and (k, m) != edge:
                self.assertEqual(product, 0)
            self.assertGreaterEqual(product, 0)

    def test_opening(self):
        triangle = plain((0, 0), (4, 0), (0, 3))
        edges = ((0, 1), (0, 2), (1, 2))
        self.assertEqual(opening(triangle, edges, (0, 2)), (((0, 1), (0, 1)), ((0, 1), (3, 1)), ((0, 1), (3, 1))))
        self.assertEqual(opening(plain((1, 1), (3, 6)), ((0, 1),), (0, 1)), (((0, 1), (0, 1)), ((2, 1), (5, 1))))
        self.assertEqual(opening(((1, 1, 2), (1, 1, 3)), ((0, 1),), (0, 1)), (((0, 1), (0, 1)), ((-1, 6), (-1, 6))))
        for edge in ((0, 1), (0, 2), (1, 2)):
            self.holds(triangle, edges, edge)
            self.holds(INNER, SET, edge)

    def test_at_each_edge_of_the_hull(self):
        rows = seeded(87)
        sizes = ((2, 5, 3), (4, 9, 3), (5, 9, 1), (7, 9, 2), (9, 20, 1), (12, 30, 1), (5, LIMIT, LIMIT))
        for many, size, most in sizes:
            points = some_general(rows, many, size, most)
            edges = completed(points, ())
            for edge in hull_edges(points):
                self.holds(points, edges, edge)

    def test_all_pseudo_triangulations(self):
        points = some_general(seeded(88), 6)
        for edges in all_pseudo(points)[::3]:
            self.holds(points, edges, hull_edges(points)[0])

    def test_wrong_arguments(self):
        for edges in ((), None):
            self.bad_few(opening, edges, None)
        self.bad_edges(opening, None)
        self.bad_edges(opening, (0, 1))
        for edges in ((), SET[:-1], ALL, ((0, 1), (0, 2), (0, 3), (1, 3), (2, 3))):
            for edge in ((0, 1), None, (0, 3)):
                self.raised(NotPseudo, opening, INNER, edges, edge)
        self.raised(BadEdges, opening, INNER, SET[::-1], None, index=1)

    def test_bad_edge(self):
        wrong = [value for value in STRANGE if value != (1, 2)] + [
            (0, 3), (1, 3), (2, 3), (1, 0), (2, 1), [0, 1], (False, 1), (0, True), (0, 4), (-1, 2), (0, 1, 2), "01",
            ((0, 1),), deep(50), {(0, 1): 1},
        ]
        for edge in wrong:
            with self.subTest(edge=edge):
                self.raised(BadEdge, opening, INNER, SET, edge)
        # an edge of the hull of other points, and one of the hull that is not in the set
        self.raised(BadEdge, opening, on_curve(2), ((0, 1),), (0, 2))
