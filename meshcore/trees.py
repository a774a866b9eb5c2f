"""A least spanning tree, and the graphs of neighbours around it."""

from itertools import combinations

from meshcore.exact import is_less, places_of
from meshcore.growing import births_of, check_growing, is_clear
from meshcore.parts import joined
from meshcore.points import gap2


def squares_of(points):
    """A dict of all pairs with the squares of their lengths."""
    return {(i, j): gap2(points[i], points[j]) for i, j in combinations(range(len(points)), 2)}


def by_length(squares):
    """The pairs, the shortest ones first."""
    places = places_of([squares[pair] for pair in squares])
    return [pair for _, pair in sorted([(places[squares[pair]], pair) for pair in squares])]


def spanning_tree(points):
    """The pairs of a tree that joins all points and has the least squared lengths."""
    check_growing(points)
    labels = list(range(len(points)))
    found = []
    # J. Kruskal: the shortest pair that joins two parts is always one of a least tree
    for i, j in by_length(squares_of(points)):
        if labels[i] != labels[j]:
            labels = joined(labels, i, j)
            found.append((i, j))
    return tuple(sorted(found))


def is_near_both(points, pair, p, square):
    """Whether p is nearer to both points of a pair than they are to one another."""
    for k in pair:
        if not is_less(gap2(points[k], p), square):
            return False
    return True


def are_neighbours(points, pair, square):
    """Whether no point is nearer to both points of a pair than they are to one another."""
    # neither of the two is: it is as far from the other one as they are from one another
    for p in points:
        if is_near_both(points, pair, p, square):
            return False
    return True


def nested_graphs(points):
    """The pairs of neighbours, those with a circle that is clear, those of the Delaunay cells."""
    check_growing(points)
    squares = squares_of(points)
    near = [pair for pair in squares if are_neighbours(points, pair, squares[pair])]
    clear = [pair for pair in squares if is_clear(points, pair)]
    cells = [cell for _, cell in births_of(points) if len(cell) == 2]
    return (tuple(near), tuple(clear), tuple(sorted(cells)))
