"""The examples of the interface, word by word."""

from meshcore.barriers import connection, free_cells, inner_clusters, region_count, shortest
from meshcore.bars import alive, bars
from meshcore.boxes import is_free, shows_way
from meshcore.centers import depth, shows_common
from meshcore.circles import circle_side, circumcenter, radius2
from meshcore.circuits import dependency, radon_parts
from meshcore.constrained import constrained, respects, seen_in_circles
from meshcore.covers import all_covers, flips, placing
from meshcore.cuttings import cutting_count, diagonals, fewest_pieces, tree_of
from meshcore.delaunay import angle_row, delaunay, illegal_edges, largest_cap
from meshcore.duality import above, dual_of_line, dual_of_point, level_corners
from meshcore.edgecounts import crossing_count, halving_pairs, left_counts, separable
from meshcore.errors import BadConstraints, BadText, TooFew, TooMany
from meshcore.growing import births, hole_count, part_count
from meshcore.hulls import hull, locate_in_hull
from meshcore.nearest import average_of, cell_corners, circle_counts, nearest, nearest_choices
from meshcore.pointed import crossing_edges, unpointed
from meshcore.points import compare, distance2, point, ranked
from meshcore.polygons import area, lattice_counts, polygon_flaw, side
from meshcore.pseudo import all_pseudo, partner, pseudo_triangles
from meshcore.refining import conforming
from meshcore.regular import folds, regularity, shares
from meshcore.rigidity import laman_flaw, opening
from meshcore.segments import crosses, meeting
from meshcore.signs import contradiction, realized, signs_of
from meshcore.texts import read_mesh, write_mesh
from meshcore.trees import spanning_tree
from meshcore.triangulations import all_triangulations, flip, flippable, triangulation_flaw
from tests.helpers import Checked


class Examples(Checked):

    def test_points(self):
        found = [point(2, -4, w=6), compare((1, 0, 2), (1, 0, 1)), distance2((0, 0, 1), (1, 1, 2)),
                 ranked(((3, 0, 1), (1, 5, 1), (1, 2, 1)))]
        self.assertEqual(found, [(1, -2, 3), -1, (1, 2), (2, 1, 0)])

    def test_segments(self):
        found = [meeting((0, 0, 1), (2, 2, 1), (0, 2, 1), (2, 0, 1)),
                 meeting((0, 0, 1), (4, 0, 1), (2, 0, 1), (9, 0, 1)),
                 crosses((0, 0, 1), (2, 2, 1), (0, 2, 1), (1, 1, 1))]
        self.assertEqual(found, [((1, 1, 1),), ((2, 0, 1), (4, 0, 1)), False])

    def test_circles(self):
        found = [circumcenter((0, 0, 1), (4, 0, 1), (0, 2, 1)), radius2((0, 0, 1), (4, 0, 1), (0, 2, 1)),
                 circle_side((0, 0, 1), (4, 0, 1), (0, 2, 1), (4, 2, 1))]
        self.assertEqual(found, [(2, 1, 1), (5, 1), 0])

    def test_hulls(self):
        points = ((0, 0, 1), (4, 0, 1), (0, 4, 1), (1, 1, 1))
        found = [hull(points), locate_in_hull(points[:2], (1, 0, 1))]
        self.assertEqual(found, [((0, 0, 1), (4, 0, 1), (0, 4, 1)), ('in', (0, 1), ((3, 4), (1, 4)))])

    def test_polygons(self):
        dart = ((0, 0, 1), (4, 1, 1), (8, 0, 1), (4, 6, 1))
        found = [area(dart), lattice_counts(dart), side(dart, (4, 0, 1)), polygon_flaw(dart[::-1])]
        self.assertEqual(found, [(20, 1), (18, 6), -1, ('clockwise',)])

    def test_triangulations(self):
        kite = ((0, 0, 1), (4, 0, 1), (5, 5, 1), (0, 4, 1))
        one = ((0, 1, 2), (0, 2, 3))
        found = [flippable(kite, one), flip(kite, one, (0, 2)), all_triangulations(kite),
                 triangulation_flaw(kite, one[:1])]
        told = [((0, 2),), ((0, 1, 3), (1, 2, 3)), (((0, 1, 2), (0, 2, 3)), ((0, 1, 3), (1, 2, 3))), ('gap',)]
        self.assertEqual(found, told)

    def test_delaunay(self):
        kite = ((0, 0, 1), (4, 0, 1), (5, 5, 1), (0, 4, 1))
        one = ((0, 1, 2), (0, 2, 3))
        found = [illegal_edges(kite, one), delaunay(kite), largest_cap(kite, one),
                 angle_row(((0, 0, 1), (2, 0, 1), (0, 1, 1)), ((0, 1, 2),))]
        self.assertEqual(found, [((0, 2),), ((0, 1, 3), (1, 2, 3)), (25, 2), ((2, 1), (1, 2), (0, 1))])

    def test_signs(self):
        found = [signs_of(((0, 0, 1), (1, 0, 1), (0, 1, 1), (1, 1, 1))), contradiction(4, (-1, 1, -1, 1)),
                 realized(4, (1, -1, 1, -1))]
        self.assertEqual(found, [(1, 1, -1, -1), (0, 1, 2, 3), None])

    def test_signs_of_too_few(self):
        with self.assertRaises(TooFew):
            signs_of(((0, 0, 1), (1, 0, 1)))

    def test_duality(self):
        lines = (((0, 1), (0, 1)), ((1, 1), (0, 1)), ((-1, 1), (2, 1)))
        found = [level_corners(lines, 0), level_corners(lines, 1), dual_of_point((2, 3, 1)),
                 dual_of_line(((1, 2), (3, 1)))]
        self.assertEqual(found, [((0, 0, 1), (2, 0, 1)), ((1, 1, 1),), ((2, 1), (-3, 1)), (1, -6, 2)])
        self.assertEqual(above(lines[1], (0, 1, 1)), 1)

    def test_edgecounts(self):
        five = ((0, 0, 1), (4, 0, 1), (5, 3, 1), (2, 5, 1), (-1, 3, 1))
        found = [left_counts(five), crossing_count(five), halving_pairs(five[:4]), separable(five[:3], 1)]
        self.assertEqual(found, [(5, 5, 5, 5), 5, ((0, 2), (1, 3)), ((0,), (1,), (2,))])

    def test_centers(self):
        square = ((0, 0, 1), (2, 0, 1), (2, 2, 1), (0, 2, 1))
        found = [depth(square, (1, 1, 1))[0], depth(square, (5, 1, 1))[0],
                 shows_common(square, (((0, 2), (1, 3)), (1, 1, 1)))]
        self.assertEqual(found, [2, 0, True])

    def test_pointed(self):
        points = ((0, 0, 1), (6, 0, 1), (1, 5, 1), (2, 2, 1))
        found = [unpointed(points, ((0, 3), (1, 3), (2, 3))), crossing_edges(points, ((0, 1), (2, 3)))]
        self.assertEqual(found, [(3,), None])

    def test_pseudo(self):
        points = ((0, 0, 1), (6, 0, 1), (1, 5, 1), (2, 2, 1))
        edges = ((0, 1), (0, 2), (0, 3), (1, 2), (1, 3))
        found = [pseudo_triangles(points, edges), partner(points, edges, (0, 3)), len(all_pseudo(points))]
        self.assertEqual(found, [((0, 1, 3), (0, 3, 1, 2)), (2, 3), 3])

    def test_rigidity(self):
        triangle = ((0, 0, 1), (4, 0, 1), (0, 3, 1))
        found = [laman_flaw(triangle, ((0, 1), (0, 2))), opening(triangle, ((0, 1), (0, 2), (1, 2)), (0, 1))]
        self.assertEqual(found, [('count',), (((0, 1), (0, 1)), ((4, 1), (0, 1)), ((4, 1), (0, 1)))])

    def test_circuits(self):
        square = ((0, 0, 1), (3, 0, 1), (3, 2, 1), (0, 2, 1))
        found = [dependency(square, (0, 1, 2, 3)), radon_parts(square, (0, 1, 2, 3))]
        self.assertEqual(found, [(1, -1, 1, -1), ((0, 2), (1, 3), (3, 2, 2))])

    def test_covers(self):
        body = ((0, 0, 0, 1), (4, 0, 0, 1), (0, 4, 0, 1), (0, 0, 4, 1), (1, 1, 1, 1))
        found = [placing(body), flips(body, placing(body)), all_covers(body)[1]]
        told = [((0, 1, 2, 3),), ((0, 1, 2, 3, 4),), ((0, 1, 2, 4), (0, 1, 3, 4), (0, 2, 3, 4), (1, 2, 3, 4))]
        self.assertEqual(found, told)

    def test_regular(self):
        square = ((0, 0, 1), (3, 0, 1), (3, 2, 1), (0, 2, 1))
        one = ((0, 1, 2), (0, 2, 3))
        found = [shares(square, one), folds(square, one), regularity(square, one)[0]]
        self.assertEqual(found, [((12, 1), (6, 1), (12, 1), (6, 1)), (((0, 1, 2, 3), (-1, 1, -1, 1)),), 'heights'])

    def test_growing(self):
        points = ((0, 0, 1), (4, 1, 1), (1, 3, 1))
        found = [births(points)[3:], part_count(points, (3, 1)), hole_count(points, (9, 2))]
        told = (((5, 2), (0, 2)), ((13, 4), (1, 2)), ((17, 4), (0, 1)), ((1105, 242), (0, 1, 2)))
        self.assertEqual(found, [told, 2, 1])

    def test_bars(self):
        points = ((0, 0, 1), (4, 1, 1), (1, 3, 1))
        found = [bars(points), alive(bars(points)[1], (9, 2)), spanning_tree(points)]
        parts = (((0, 1), (5, 2)), ((0, 1), (13, 4)), ((0, 1), None))
        self.assertEqual(found, [(parts, (((17, 4), (1105, 242)),)), 1, ((0, 2), (1, 2))])

    def test_nearest(self):
        points = ((0, 0, 1), (4, 0, 1), (0, 2, 1))
        found = [nearest_choices(points, 2), circle_counts(points), cell_corners(points, (1,)),
                 nearest(points, (2, 0, 1), 2), average_of(points, (0, 1))]
        told = [((0, 1), (0, 2), (1, 2)), (1,), ((2, 1, 1),), (0, 1), ((2, 0, 1), (4, 1))]
        self.assertEqual(found, told)

    def test_constrained(self):
        kite = ((0, 0, 1), (4, 0, 1), (5, 5, 1), (0, 4, 1))
        one = ((0, 1, 2), (0, 2, 3))
        found = [constrained(kite, ((0, 2),)), respects(kite, ((0, 2),), one), respects(kite, (), one),
                 seen_in_circles(kite, (), one)]
        self.assertEqual(found, [((0, 1, 2), (0, 2, 3)), True, False, ((0, 3), (1, 1))])

    def test_constraints_that_cross(self):
        with self.assertRaises(BadConstraints) as caught:
            constrained(((0, 0, 1), (4, 0, 1), (4, 4, 1), (0, 4, 1)), ((0, 2), (1, 3)))
        self.assertEqual((caught.exception.first, caught.exception.second), (0, 1))

    def test_refining(self):
        found = conforming(((0, 0, 1), (8, 0, 1), (4, 1, 1)), ((0, 1),), 1)
        self.assertEqual(found, (((0, 0, 1), (8, 0, 1), (4, 1, 1), (4, 0, 1)), ((0, 3), (1, 3))))

    def test_refining_with_too_many(self):
        with self.assertRaises(TooMany) as caught:
            conforming(((0, 0, 1), (8, 0, 1), (4, 1, 1)), ((0, 1),), 0)
        self.assertEqual(caught.exception.most, 0)

    def test_cuttings(self):
        dart = ((0, 0, 1), (4, 1, 1), (8, 0, 1), (4, 6, 1))
        square = ((0, 0, 1), (4, 0, 1), (4, 4, 1), (0, 4, 1))
        found = [diagonals(dart), fewest_pieces(dart), cutting_count(square), tree_of(square, ((0, 2),))]
        self.assertEqual(found, [((1, 3),), ((1, 3),), 2, (((0, 1, 2), (0, 2, 3)),)])

    def test_boxes(self):
        world = ((0, 0, 9, 7), (), (2, 1))
        found = [is_free(world, (7, 6)), is_free(world, (8, 6)),
                 shows_way(world, (0, 0), (7, 6), ((0, 0), (7, 0), (7, 6)))]
        self.assertEqual(found, [True, False, True])

    def test_barriers(self):
        world = ((0, 0, 9, 7), ((4, 0, 5, 7),), (1, 1))
        found = [region_count(world), free_cells(world), inner_clusters(world), shortest(world, (0, 0), (3, 6)),
                 connection(world, (0, 0), (8, 0))[0]]
        self.assertEqual(found, [2, (8, 8, 2), 0, 9, 'barrier'])

    def test_texts(self):
        points = ((0, 0, 1), (1, 0, 2), (0, -3, 1))
        found = [write_mesh(points, ((0, 1, 2),)), read_mesh('0 0\n1/2 0\n0 -3\n-\n0 1 2\n') == (points, ((0, 1, 2),))]
        self.assertEqual(found, ['0 0\n1/2 0\n0 -3\n-\n0 1 2\n', True])

    def test_texts_that_are_wrong(self):
        with self.assertRaises(BadText) as caught:
            read_mesh('0 0\n1 x\n')
        self.assertEqual(caught.exception.line, 1)
