"""Promises [20] and [21]: pseudo-triangulations, their faces, their replacements."""

from itertools import combinations

from meshcore.errors import BadEdge, BadEdges, NotGeneral, NotPointed, NotPseudo, TooMany
from meshcore.hulls import hull
from meshcore.pseudo import all_pseudo, completed, is_pseudo, partner, pseudo_triangles
from tests.helpers import STRANGE, Checked, at, cross, deep, on_curve, pairs_of, plain, seeded, some_general
from tests.test_pointed import crossing_by_words, unpointed_by_words

INNER = plain((0, 0), (6, 0), (1, 5), (2, 2))
SET = ((0, 1), (0, 2), (0, 3), (1, 2), (1, 3))


def is_pointed_by_words(points, edges):
    return crossing_by_words(points, edges) is None and unpointed_by_words(points, edges) == ()


def all_by_words(points):
    many = len(points)
    sets = combinations(pairs_of(many), 2 * many - 3)
    return tuple(sorted(edges for edges in sets if is_pointed_by_words(points, edges)))


def hull_edges(points):
    corners = hull(points)
    found = [tuple(sorted((points.index(p), points.index(corners[k - 1])))) for k, p in enumerate(corners)]
    return sorted(set(found))


def doubled(corners):
    """Twice the area, by the corners around."""
    spots = [at(p) for p in corners]
    return sum(spots[k - 1][0] * spots[k][1] - spots[k - 1][1] * spots[k][0] for k in range(len(spots)))


class Pseudo(Checked):

    def test_is_pseudo(self):
        self.assertIs(is_pseudo(INNER, SET), True)
        self.assertIs(is_pseudo(INNER, SET[:-1]), False)
        self.assertIs(is_pseudo(INNER, ()), False)
        self.assertIs(is_pseudo(INNER, tuple(pairs_of(4))), False)
        self.assertIs(is_pseudo(on_curve(2), ((0, 1),)), True)
        self.assertIs(is_pseudo(on_curve(2), ()), False)
        self.assertIs(is_pseudo(on_curve(3), tuple(pairs_of(3))), True)
        self.assertIs(is_pseudo(on_curve(4), ((0, 1), (0, 2), (0, 3), (1, 2), (2, 3))), True)
        # as many edges, but two of them cross
        self.assertIs(is_pseudo(on_curve(4), ((0, 1), (0, 2), (0, 3), (1, 2), (1, 3))), False)
        # as many edges without a crossing, but not pointed at the point inside
        self.assertIs(is_pseudo(INNER, ((0, 1), (0, 2), (0, 3), (1, 3), (2, 3))), False)

    def test_completed(self):
        rows = seeded(74)
        for many in (2, 3, 4, 5, 7, 9, 12):
            for _ in range(6):
                points = some_general(rows, many, 9)
                edges = ()
                for pair in rows.sample(pairs_of(many), min(len(pairs_of(many)), 8)):
                    more = tuple(sorted(edges + (pair,)))
                    if is_pointed_by_words(points, more):
                        edges = more
                for given in (edges, edges[:2], ()):
                    found = completed(points, given)
                    self.assertIsInstance(found, tuple)
                    self.assertEqual(list(found), sorted(set(found)))
                    self.assertLessEqual(set(given), set(found))
                    self.assertIs(is_pseudo(points, found), True)
                    self.assertEqual(len(found), 2 * many - 3)
                    self.assertTrue(is_pointed_by_words(points, found))

    def test_completed_that_cannot_grow(self):
        self.assertEqual(completed(INNER, SET), SET)
        self.assertEqual(completed(on_curve(2), ()), ((0, 1),))
        self.assertEqual(completed(on_curve(2), ((0, 1),)), ((0, 1),))

    def test_not_pointed(self):
        for edges in (((0, 3), (1, 3), (2, 3)), tuple(pairs_of(4))):
            self.raised(NotPointed, completed, INNER, edges)
        self.raised(NotPointed, completed, on_curve(4), ((0, 2), (1, 3)))

    def holds_faces(self, points, edges):
        faces = pseudo_triangles(points, edges)
        self.assertEqual(list(faces), sorted(set(faces)))
        self.assertEqual(len(faces), len(points) - 2)
        used = []
        for face in faces:
            self.assertEqual(face[0], min(face))
            self.assertEqual(len(set(face)), len(face))
            sides = [tuple(sorted((face[k - 1], i))) for k, i in enumerate(face)]
            self.assertLessEqual(set(sides), set(edges))
            used.extend(sides)
            turns = [cross(at(points[face[k - 2]]), at(points[face[k - 1]]), at(points[face[k]]))
                     for k in range(len(face))]
            self.assertEqual(sum(one > 0 for one in turns), 3)
            self.assertGreater(doubled([points[k] for k in face]), 0)
        outer = hull_edges(points)
        for edge in edges:
            self.assertEqual(used.count(edge), 1 if edge in outer else 2)
        total = sum(doubled([points[k] for k in face]) for face in faces)
        self.assertEqual(total, doubled(hull(points)))

    def test_pseudo_triangles(self):
        self.assertEqual(pseudo_triangles(INNER, SET), ((0, 1, 3), (0, 3, 1, 2)))
        self.assertEqual(pseudo_triangles(on_curve(2), ((0, 1),)), ())
        self.assertEqual(pseudo_triangles(on_curve(3), ((0, 1), (0, 2), (1, 2))), ((0, 1, 2),))
        self.assertEqual(pseudo_triangles(on_curve(3)[::-1], ((0, 1), (0, 2), (1, 2))), ((0, 2, 1),))
        rows = seeded(75)
        for many in (4, 5, 6, 8, 10, 12):
            for _ in range(5):
                points = some_general(rows, many, 9, 2)
                edges = completed(points, tuple(sorted(rows.sample(pairs_of(many), 2)))[:1])
                for _ in range(6):
                    self.holds_faces(points, edges)
                    inner = [edge for edge in edges if edge not in hull_edges(points)]
                    if inner:
                        edge = rows.choice(inner)
                        new = partner(points, edges, edge)
                        edges = tuple(sorted(set(edges) - {edge} | {new}))

    def test_partner(self):
        self.assertEqual(partner(INNER, SET, (0, 3)), (2, 3))
        self.assertEqual(partner(INNER, SET, (1, 3)), (2, 3))
        rows = seeded(76)
        for many in (4, 5, 6, 7):
            points = some_general(rows, many, 4)
            edges = completed(points, ())
            for edge in edges:
                if edge in hull_edges(points):
                    self.raised(BadEdge, partner, points, edges, edge)
                    continue
                rest = [one for one in edges if one != edge]
                told = [new for new in pairs_of(many) if new not in edges
                        and is_pointed_by_words(points, tuple(sorted(rest + [new])))]
                self.assertEqual([partner(points, edges, edge)], told)
                self.assertEqual(partner(points, tuple(sorted(rest + told)), told[0]), edge)

    def test_all_pseudo(self):
        self.assertEqual(all_pseudo(on_curve(2)), (((0, 1),),))
        self.assertEqual(all_pseudo(on_curve(3)), (((0, 1), (0, 2), (1, 2)),))
        self.assertEqual(len(all_pseudo(INNER)), 3)
        rows = seeded(77)
        for many in (4, 4, 5, 5, 5):
            points = some_general(rows, many, 4)
            self.assertEqual(all_pseudo(points), all_by_words(points))

    def test_all_pseudo_are_kept_by_replacements(self):
        rows = seeded(78)
        for many in (6, 7):
            points = some_general(rows, many, 9)
            found = all_pseudo(points)
            self.assertEqual(list(found), sorted(set(found)))
            told = set(found)
            for edges in found[::5]:
                self.assertIs(is_pseudo(points, edges), True)
                for edge in edges:
                    if edge not in hull_edges(points):
                        new = partner(points, edges, edge)
                        self.assertIn(tuple(sorted(set(edges) - {edge} | {new})), told)

    def test_convex_position(self):
        # the triangulations of polygons
        self.assertEqual([len(all_pseudo(on_curve(k))) for k in range(3, 11)], [1, 2, 5, 14, 42, 132, 429, 1430])

    def test_too_many(self):
        self.raised(TooMany, all_pseudo, on_curve(11), most=2000)
        self.raised(TooMany, all_pseudo, on_curve(12), most=2000)
        self.raised(TooMany, all_pseudo, some_general(seeded(79), 10, 40), most=2000)

    def test_wrong_points(self):
        self.bad_few(all_pseudo)
        for edges in ((), None):
            for call in (is_pseudo, completed, pseudo_triangles):
                self.bad_few(call, edges)
            self.bad_few(partner, edges, None)
        self.raised(NotGeneral, all_pseudo, plain((0, 0), (1, 1), (2, 2)))

    def test_wrong_edges(self):
        for call in (is_pseudo, completed, pseudo_triangles):
            self.bad_edges(call)
        self.bad_edges(partner, None)
        self.bad_edges(partner, (0, 1))

    def test_not_pseudo(self):
        for edges in ((), SET[:-1], SET[1:], tuple(pairs_of(4)), ((0, 1), (0, 2), (0, 3), (1, 3), (2, 3))):
            self.raised(NotPseudo, pseudo_triangles, INNER, edges)
            for edge in ((0, 3), (0, 1), None):
                self.raised(NotPseudo, partner, INNER, edges, edge)
        self.raised(NotPseudo, pseudo_triangles, on_curve(4), ((0, 1), (0, 2), (0, 3), (1, 2), (1, 3)))
        self.raised(BadEdges, partner, INNER, SET[::-1], None, index=1)

    def test_bad_edge(self):
        wrong = STRANGE + ((2, 3), (3, 1), (0, 1), (1, 3, 3), [0, 3], (False, 3), (0, 4), (True, 3), "03", deep(50))
        for edge in wrong + ((0, 2), (1, 2), ((0, 3),), (0, 3, 0), {0: 3}, {(0, 3): 1}):
            with self.subTest(edge=edge):
                self.raised(BadEdge, partner, INNER, SET, edge)
        self.raised(BadEdge, partner, on_curve(2), ((0, 1),), (0, 1))
