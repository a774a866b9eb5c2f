"""The examples of the interface, word by word."""

from meshcore.circles import circle_side, circumcenter, radius2
from meshcore.delaunay import angle_row, delaunay, illegal_edges, largest_cap
from meshcore.errors import TooFew
from meshcore.hulls import hull, locate_in_hull
from meshcore.points import compare, distance2, point, ranked
from meshcore.polygons import area, lattice_counts, polygon_flaw, side
from meshcore.segments import crosses, meeting
from meshcore.signs import contradiction, realized, signs_of
from meshcore.triangulations import all_triangulations, flip, flippable, triangulation_flaw
from tests.helpers import Checked


class Examples(Checked):

    def test_points(self):
        found = [point(2, -4, w=6), compare((1, 0, 2), (1, 0, 1)), distance2((0, 0, 1), (1, 1, 2)),
                 ranked(((3, 0, 1), (1, 5, 1), (1, 2, 1)))]
        self.assertEqual(found, [(1, -2, 3), -1, (1, 2), (2, 1, 0)])

    def test_segments(self):
        found = [meeting((0, 0, 1), (2, 2, 1), (0, 2, 1), (2, 0, 1)),
                 meeting((0, 0, 1), (4, 0, 1), (2, 0, 1), (9, 0, 1)),
                 crosses((0, 0, 1), (2, 2, 1), (0, 2, 1), (1, 1, 1))]
        self.assertEqual(found, [((1, 1, 1),), ((2, 0, 1), (4, 0, 1)), False])

    def test_circles(self):
        found = [circumcenter((0, 0, 1), (4, 0, 1), (0, 2, 1)), radius2((0, 0, 1), (4, 0, 1), (0, 2, 1)),
                 circle_side((0, 0, 1), (4, 0, 1), (0, 2, 1), (4, 2, 1))]
        self.assertEqual(found, [(2, 1, 1), (5, 1), 0])

    def test_hulls(self):
        points = ((0, 0, 1), (4, 0, 1), (0, 4, 1), (1, 1, 1))
        found = [hull(points), locate_in_hull(points[:2], (1, 0, 1))]
        self.assertEqual(found, [((0, 0, 1), (4, 0, 1), (0, 4, 1)), ('in', (0, 1), ((3, 4), (1, 4)))])

    def test_polygons(self):
        dart = ((0, 0, 1), (4, 1, 1), (8, 0, 1), (4, 6, 1))
        found = [area(dart), lattice_counts(dart), side(dart, (4, 0, 1)), polygon_flaw(dart[::-1])]
        self.assertEqual(found, [(20, 1), (18, 6), -1, ('clockwise',)])

    def test_triangulations(self):
        kite = ((0, 0, 1), (4, 0, 1), (5, 5, 1), (0, 4, 1))
        one = ((0, 1, 2), (0, 2, 3))
        found = [flippable(kite, one), flip(kite, one, (0, 2)), all_triangulations(kite),
                 triangulation_flaw(kite, one[:1])]
        told = [((0, 2),), ((0, 1, 3), (1, 2, 3)), (((0, 1, 2), (0, 2, 3)), ((0, 1, 3), (1, 2, 3))), ('gap',)]
        self.assertEqual(found, told)

    def test_delaunay(self):
        kite = ((0, 0, 1), (4, 0, 1), (5, 5, 1), (0, 4, 1))
        one = ((0, 1, 2), (0, 2, 3))
        found = [illegal_edges(kite, one), delaunay(kite), largest_cap(kite, one),
                 angle_row(((0, 0, 1), (2, 0, 1), (0, 1, 1)), ((0, 1, 2),))]
        self.assertEqual(found, [((0, 2),), ((0, 1, 3), (1, 2, 3)), (25, 2), ((2, 1), (1, 2), (0, 1))])

    def test_signs(self):
        found = [signs_of(((0, 0, 1), (1, 0, 1), (0, 1, 1), (1, 1, 1))), contradiction(4, (-1, 1, -1, 1)),
                 realized(4, (1, -1, 1, -1))]
        self.assertEqual(found, [(1, 1, -1, -1), (0, 1, 2, 3), None])

    def test_signs_of_too_few(self):
        with self.assertRaises(TooFew):
            signs_of(((0, 0, 1), (1, 0, 1)))
