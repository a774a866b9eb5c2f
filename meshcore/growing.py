"""Disks that grow around points: the births of the Delaunay cells, the complex at a squared radius."""

from itertools import combinations

from meshcore.circles import check_round, disk_side, points_inside, span2
from meshcore.errors import BadRadius, NotGeneric, TooMany
from meshcore.exact import by_value, is_less, is_ratio, places_of, times
from meshcore.parity import rank_of
from meshcore.parts import part_number
from meshcore.points import check_list, gap2
from meshcore.triangulations import rests_of_edges, sides_with_rest, triangle_of
from meshcore.turns import check_general, combinations_of_three

MOST_POINTS = 12


def disk_sides(points, pair):
    """Where the other points lie, seen from the circle that has the segment of a pair as diameter."""
    a, b = [points[k] for k in pair]
    return [disk_side(a, b, p) for k, p in enumerate(points) if k not in pair]


def is_clear(points, pair):
    """Whether no other point lies inside the circle that has the segment of a pair as diameter."""
    return 1 not in disk_sides(points, pair)


def check_disks(points):
    for pair in combinations(range(len(points)), 2):
        if 0 in disk_sides(points, pair):
            raise NotGeneric()


def check_growing(points):
    check_list(points)
    if len(points) > MOST_POINTS:
        raise TooMany(MOST_POINTS)
    check_general(points)
    check_round(points)
    check_disks(points)


def check_radius(r):
    if not is_ratio(r) or r[0] < 0:
        raise BadRadius()


def born_triples(points):
    """A dict of the Delaunay triples with their births."""
    rows = combinations_of_three(len(points))
    triples = [triple for triple in rows if points_inside(points, triple) == []]
    return {(i, j, k): span2(points[i], points[j], points[k]) for i, j, k in triples}


def pair_birth(points, pair, births_around):
    """The birth of a pair; the births of the triples around it are given."""
    if is_clear(points, pair):
        return times((1, 4), gap2(points[pair[0]], points[pair[1]]))
    return by_value(births_around)[0]


def born_pairs(points, born):
    """A dict of the Delaunay pairs with their births, for the triples with their births."""
    rests = rests_of_edges(list(born))
    if len(points) == 2:
        rests = {(0, 1): []}
    return {pair: pair_birth(points, pair, [born[triangle_of(pair, at)] for at in rests[pair]]) for pair in rests}


def births_of(points):
    """The list of what births tells."""
    triples = born_triples(points)
    pairs = born_pairs(points, triples)
    rows = [((0, 1), (k,)) for k in range(len(points))]
    rows += [(pairs[pair], pair) for pair in pairs]
    rows += [(triples[triple], triple) for triple in triples]
    places = places_of([birth for birth, _ in rows])
    ordered = sorted([(places[birth], len(cell), cell, birth) for birth, cell in rows])
    return [(birth, cell) for _, _, cell, birth in ordered]


def cells_at(points, r):
    """The cells with births at most r, by their births."""
    return [cell for birth, cell in births_of(points) if not is_less(r, birth)]


def of_size(cells, size):
    return [cell for cell in cells if len(cell) == size]


def check_complex(points, r):
    """The errors of points and a squared radius; returns the cells of the complex."""
    check_growing(points)
    check_radius(r)
    return cells_at(points, r)


def births(points):
    """All Delaunay cells with their births, in ascending order of the births."""
    check_growing(points)
    return tuple(births_of(points))


def complex_at(points, r):
    """The cells that are born at most at the squared radius r."""
    return tuple(sorted(check_complex(points, r)))


def part_count(points, r):
    """The number of connected parts of the complex at r."""
    cells = check_complex(points, r)
    return part_number(len(points), of_size(cells, 2))


def hole_count(points, r):
    """The number of holes of the complex at r."""
    cells = check_complex(points, r)
    pairs = of_size(cells, 2)
    return len(pairs) - len(of_size(cells, 3)) - len(points) + part_number(len(points), pairs)


def ranks_at(points, r):
    """The ranks, modulo 2, of the table of pairs and points and of that of triples and pairs."""
    cells = check_complex(points, r)
    rows = [[side for side, _ in sides_with_rest(triple)] for triple in of_size(cells, 3)]
    return (rank_of(of_size(cells, 2)), rank_of(rows))
