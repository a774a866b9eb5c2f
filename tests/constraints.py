"""What the tests of constrained and of refined meshes share: some constraints, wrong ones, what is hidden."""

from itertools import combinations

from meshcore.errors import BadConstraints, Flat, TooFew, TooMany
from tests.helpers import Checked, at, clipped, cross, left, on_curve, plain

SQUARE = plain((0, 0), (4, 0), (4, 4), (0, 4))


def on_between(p, a, b):
    """Whether p lies on the segment from a to b, ends included; fractions."""
    return cross(a, b, p) == 0 and min(a, b) <= p <= max(a, b)


def meet_wrongly(a, b, c, d):
    """Whether two different segments have a point in common that is not an end of both."""
    for p, q, r in ((a, c, d), (b, c, d), (c, a, b), (d, a, b)):
        if on_between(p, q, r) and p not in (q, r):
            return True
    if cross(a, b, c) * cross(a, b, d) < 0 and cross(c, d, a) * cross(c, d, b) < 0:
        return True
    # both ends in common only if the segments are equal
    return {a, b} == {c, d}


def constraint_flaw(points, edges):
    """The fields of the error for an edge set, None if there is none."""
    spots = [at(p) for p in points]
    for a, b in combinations(range(len(edges)), 2):
        if meet_wrongly(*[spots[k] for k in edges[a] + edges[b]]):
            return (a, b)
    for a, (i, j) in enumerate(edges):
        if any(on_between(p, spots[i], spots[j]) for k, p in enumerate(spots) if k not in (i, j)):
            return (a, None)
    return None


def some_constraints(rows, points, tries):
    """Edges that may be constraints, found one after the other."""
    pairs = list(combinations(range(len(points)), 2))
    edges = []
    for _ in range(tries):
        new = rows.choice(pairs)
        rest = tuple(sorted(edges + [new]))
        if new not in edges and constraint_flaw(points, rest) is None:
            edges.append(new)
    return tuple(sorted(edges))


class CheckedConstraints(Checked):

    def bad_mesh_points(self, call, *rest):
        """The points of promise [8]: all their errors, in their order, ahead of those of what follows."""
        self.bad_points(call, (), rest)
        flat = plain(*[(k, 2 * k) for k in range(21)])
        for points in (plain((1, 1)), flat[:2], ((1, 2, 3), (5, 5, 2))):
            self.raised(TooFew, call, points, *rest)
        for points in (on_curve(21), flat, on_curve(40)):
            self.raised(TooMany, call, points, *rest, most=20)
        for points in (flat[:3], flat[:20], ((0, 0, 1), (1, 1, 2), (7, 7, 3))):
            self.raised(Flat, call, points, *rest)

    def bad_constraints(self, call, *rest):
        """Constraints as an argument: wrong edge sets, edges that meet, points on edges, in this order."""
        self.bad_edges(call, *rest)
        grid = plain((0, 0), (4, 0), (4, 4), (0, 4), (2, 2), (2, 0), (8, 0), (6, 9))
        for edges, first, second in (
            (((0, 2), (1, 3)), 0, 1),                   # they cross, in a point of the list
            (((0, 7), (1, 3)), 0, 1),                   # they cross
            (((0, 1), (0, 6)), 0, 1),                   # they overlap
            (((0, 6), (1, 5)), 0, 1),                   # the one lies in the other
            (((0, 4), (1, 3)), 0, 1),                   # they touch
            (((0, 1), (4, 5)), 0, 1),
            (((0, 1), (5, 6)), 0, 1),
            (((0, 3), (0, 4), (0, 6), (1, 2), (1, 3)), 1, 4),
            (((0, 2), (0, 6), (1, 2), (5, 6)), 1, 2),
            (((0, 2),), 0, None),
            (((0, 3), (1, 2), (1, 3)), 2, None),
            (((0, 1), (1, 2), (1, 3)), 0, None),
            (((0, 6),), 0, None),
            (((0, 2), (1, 3), (1, 6), (2, 6)), 0, 1),
        ):
            with self.subTest(edges=edges):
                self.raised(BadConstraints, call, grid, edges, *rest, first=first, second=second)
        self.raised(BadConstraints, call, SQUARE, ((0, 2), (1, 3)), *rest, first=0, second=1)

    def bad_plan(self, call, *rest):
        """The errors of points and constraints."""
        self.bad_mesh_points(call, (), *rest)
        self.bad_mesh_points(call, 7, *rest)
        self.bad_constraints(call, *rest)


def unhidden(eye, one, two, corners):
    """The parts of a convex polygon that the segment from one to two does not hide from the eye."""
    if cross(eye, one, two) < 0:
        one, two = two, one
    found = []
    rest = corners
    # to the right of the first ray, to the left of the second one, ahead of the segment
    for a, b in ((eye, one), (two, eye), (two, one)):
        found.append(clipped(rest, b, a))
        rest = clipped(rest, a, b)
    return [part for part in found if doubled(part) > 0]


def doubled(corners):
    return sum(cross(corners[0], corners[k - 1], corners[k]) for k in range(2, len(corners)))


def sees(points, edges, triangle, k):
    """Whether point k is visible from inside a triangle: what all edges leave of the triangle has an area."""
    spots = [at(p) for p in points]
    parts = [left([spots[index] for index in triangle])]
    for i, j in edges:
        if cross(spots[k], spots[i], spots[j]) != 0:
            parts = [rest for part in parts for rest in unhidden(spots[k], spots[i], spots[j], part)]
    return bool(parts)
