"""Signs of triples of labels: turns of points, contradictions, points for given signs."""

from itertools import combinations, permutations

from meshcore.errors import BadNumber, BadSigns, TooFew
from meshcore.exact import is_whole
from meshcore.points import check_list
from meshcore.turns import combinations_of_three, in_all_orders, triple_turns

# Up to the order of the labels there are no other arrangements of 3, 4 and 5 points
# without three points on a line: with 3, 4 or 5 corners of the hull, the other points inside.
ARRANGEMENTS = (
    ((0, 0, 1), (1, 0, 1), (0, 1, 1)),
    ((0, 0, 1), (2, 0, 1), (2, 2, 1), (0, 2, 1)),
    ((0, 0, 1), (3, 0, 1), (0, 3, 1), (1, 1, 1)),
    ((0, 0, 1), (2, 0, 1), (3, 2, 1), (1, 3, 1), (-1, 2, 1)),
    ((0, 0, 1), (4, 0, 1), (5, 5, 1), (0, 4, 1), (1, 2, 1)),
    ((0, 0, 1), (9, 0, 1), (0, 9, 1), (2, 3, 1), (3, 1, 1)),
)


def check_signs(many, signs):
    if not is_whole(many) or not 3 <= many <= 5:
        raise BadNumber()
    if not isinstance(signs, tuple) or len(signs) != len(combinations_of_three(many)):
        raise BadSigns(None)
    for k, one in enumerate(signs):
        if not is_whole(one) or abs(one) != 1:
            raise BadSigns(k)


def signs_of(points):
    """The turns of all triples of a point list."""
    check_list(points)
    if len(points) < 3:
        raise TooFew()
    return tuple(triple_turns(points))


def four_contradict(table, a, b, c, d):
    row = (table[b, c, d], table[a, b, d], -table[a, c, d], -table[a, b, c])
    return min(row) == max(row)


def contradict_at(table, x, others):
    p, q, r, t = others
    one = table[x, p, q] * table[x, r, t]
    two = table[x, p, t] * table[x, q, r]
    return one == two and one == -table[x, p, r] * table[x, q, t]


def five_contradict(table, five):
    for x in five:
        if contradict_at(table, x, [label for label in five if label != x]):
            return True
    return False


def contradiction(many, signs):
    """The least labels that contradict one another, four of them or else five."""
    check_signs(many, signs)
    table = in_all_orders(many, signs)
    for a, b, c, d in combinations(range(many), 4):
        if four_contradict(table, a, b, c, d):
            return (a, b, c, d)
    for five in combinations(range(many), 5):
        if five_contradict(table, five):
            return five
    return None


def has_signs(table, labels, signs):
    for (i, j, k), one in zip(combinations_of_three(len(labels)), signs):
        if table[labels[i], labels[j], labels[k]] != one:
            return False
    return True


def realized(many, signs):
    """Points whose turns are the signs, None if there are none."""
    check_signs(many, signs)
    for points in ARRANGEMENTS:
        if len(points) == many:
            table = in_all_orders(many, triple_turns(points))
            for labels in permutations(range(many)):
                if has_signs(table, labels, signs):
                    return tuple([points[k] for k in labels])
    return None
