"""What the tests of configurations share: space points, slow exact references, wrong values."""

from fractions import Fraction
from functools import lru_cache
from itertools import combinations, permutations
from math import gcd

from meshcore.errors import BadConfiguration, NotCover, NotGeneral
from tests.helpers import BAD_POINTS, LIMIT, STRANGE, Checked, deep, on_curve, plain, rat, sign

INSIDE = plain((0, 0), (6, 0), (0, 6), (1, 2))
SQUARE = plain((0, 0), (3, 0), (3, 2), (0, 2))
BODY = ((0, 0, 0, 1), (4, 0, 0, 1), (0, 4, 0, 1), (0, 0, 4, 1), (1, 1, 1, 1))
# a triangle within a triangle, the corners of both in the same order
NESTED = plain((0, 0), (4, 0), (0, 4), (1, 1), (2, 1), (1, 2))
TWISTED = ((0, 1, 3), (0, 2, 5), (0, 3, 5), (1, 2, 4), (1, 3, 4), (2, 4, 5), (3, 4, 5))

# Tuples of which none is a space point.
BAD_SPACE = STRANGE[:24] + (
    (1, 2, 3, True), (True, 2, 3, 1), (1, 2, 3, 0), (1, 2, 3, -1), [1, 2, 3, 1], (2, 4, 6, 2), (0, 0, 0, 2),
    (0, 0, 0, 0), (LIMIT + 1, 0, 0, 1), (0, -LIMIT - 1, 0, 1), (0, 0, LIMIT + 1, 1), (1, 1, 1, LIMIT + 1),
    (1, 2, 3, 1, 1), (1, 2, None, 1), (1, "2", 3, 1), ("1", 2, 3, 1), (1, 2, (3,), 1), (1, 2, 3, [1]), (1, 2),
)
BAD_SPACE = tuple(value for value in BAD_SPACE if value != (1, 2, 3, 4))


def spot(p):
    """The coordinates of a point or a space point as fractions."""
    return tuple(Fraction(number, p[-1]) for number in p[:-1])


def det(rows):
    """The determinant, as the sum over all permutations."""
    total = Fraction(0)
    for order in permutations(range(len(rows))):
        one = Fraction(1)
        for k, at in enumerate(order):
            one *= rows[k][at]
        odd = sum(i > j for i, j in combinations(order, 2)) % 2
        total += -one if odd else one
    return total


@lru_cache(maxsize=100000)
def signed(config, indexes):
    """The determinant of the ways from the first of these points to the others."""
    first, *rest = [spot(config[k]) for k in indexes]
    return det([[one - two for one, two in zip(there, first)] for there in rest])


def dimension(config):
    return len(config[0]) - 1


def all_simplices(config):
    return list(combinations(range(len(config)), dimension(config) + 1))


def all_circuits(config):
    return list(combinations(range(len(config)), dimension(config) + 2))


def is_general_config(config):
    return all(signed(config, simplex) != 0 for simplex in all_simplices(config))


def some_place(rows, d, size, most):
    while True:
        numbers = [rows.randint(-size, size) for _ in range(d)] + [rows.randint(1, most)]
        if gcd(*numbers) == 1:
            return tuple(numbers)


def some_config(rows, d, many, size=9, most=2):
    """A configuration of points (d = 2) or space points (d = 3)."""
    while True:
        config = tuple(some_place(rows, d, size, most) for _ in range(many))
        if len(set(config)) == many and is_general_config(config):
            return config


def is_parted(config, one, other):
    """Whether two simplices have no inner point in common: then some plane through d corners parts them."""
    for face in combinations(sorted(set(one + other)), dimension(config)):
        first = {sign(signed(config, face + (k,))) for k in one if k not in face}
        second = {sign(signed(config, face + (k,))) for k in other if k not in face}
        if len(first) == 1 and second == {-first.pop()}:
            return True
    return False


def hull_faces(config, indexes):
    """The sets of d indexes with all others of these indexes on one side."""
    found = []
    for face in combinations(sorted(indexes), dimension(config)):
        sides = {sign(signed(config, face + (k,))) for k in indexes if k not in face}
        if len(sides) == 1:
            found.append(face)
    return found


def hull_content(config):
    """The simplices that the first point makes with the faces of the hull fill it."""
    total = Fraction(0)
    for face in hull_faces(config, range(len(config))):
        if 0 not in face:
            total += abs(signed(config, (0,) + face))
    return total


def content_of(config, simplices):
    return sum((abs(signed(config, simplex)) for simplex in simplices), Fraction(0))


def covers_by_words(config):
    """All covers, by choosing simplices without common inner points until they fill the hull."""
    rows = all_simplices(config)
    free = {(a, b) for a, b in combinations(rows, 2) if is_parted(config, a, b)}
    whole = hull_content(config)
    found = []

    def choose(chosen, left, missing):
        if missing == 0:
            found.append(tuple(chosen))
        for k, simplex in enumerate(left):
            rest = [other for other in left[k + 1:] if (simplex, other) in free]
            size = abs(signed(config, simplex))
            if size <= missing and content_of(config, rest) >= missing - size:
                choose(chosen + [simplex], rest, missing - size)

    choose([], rows, whole)
    return tuple(sorted(found))


def dependency_by_words(config, circuit):
    """The integers without a common divisor; by G. Cramer they are the contents of what is left out."""
    row = []
    for k in range(len(circuit)):
        row.append((-1) ** k * signed(config, circuit[:k] + circuit[k + 1:]))
    common = 1
    for one in row:
        common = common * one.denominator // gcd(common, one.denominator)
    row = [int(one * common) for one in row]
    common = gcd(*row) * sign(row[0])
    return tuple(one // common for one in row)


def is_inside(config, simplex, k):
    """Whether a point lies strictly inside a simplex."""
    whole = signed(config, simplex)
    parts = [signed(config, simplex[:at] + (k,) + simplex[at + 1:]) for at in range(len(simplex))]
    return all(sign(one) == sign(whole) for one in parts)


def folds_by_words(config, cover):
    found = set()
    for one, other in combinations(cover, 2):
        if len(set(one) & set(other)) == dimension(config):
            up, = set(one) - set(other)
            found.add(raised_row(config, tuple(sorted(set(one) | set(other))), up))
    for k in range(len(config)):
        if not any(k in simplex for simplex in cover):
            simplex, = [simplex for simplex in cover if is_inside(config, simplex, k)]
            found.add(raised_row(config, tuple(sorted(simplex + (k,))), k))
    return tuple(sorted(found))


def raised_row(config, circuit, up):
    row = dependency_by_words(config, circuit)
    if row[circuit.index(up)] < 0:
        row = tuple(-one for one in row)
    return (circuit, row)


def shares_by_words(config, cover):
    return tuple(rat(content_of(config, [s for s in cover if k in s])) for k in range(len(config)))


class Solid(Checked):
    """A test case with all kinds of wrong configurations and covers."""

    def bad_config(self, call, *rest):
        """A configuration as first argument: every kind of wrong one, and the index told."""
        three = BODY[:3]
        for value in (
            None, True, 0, "", "abc", {}, [], (), list(SQUARE), {SQUARE[0]: 1}, SQUARE[:1], SQUARE[:2], on_curve(9),
            three, three[::-1], BODY[:2], (5, 6), (SQUARE[0], None), (BODY[0], BODY[0]), on_curve(8) + (5,),
            BODY + ((9, 8, 7, 1), (5, 9, 3, 1), (6, 4, 9, 2), (7, 7, 9, 4)),
        ):
            with self.subTest(value=value):
                self.raised(BadConfiguration, call, value, *rest, index=None)
        for first, wrong in ((SQUARE[:2], BAD_POINTS + BODY[2:]), (BODY[:2], BAD_SPACE + SQUARE[2:])):
            for value in wrong + (first[0], first[1], deep(50)):
                for behind in ((), (7,), (first[0], ())):
                    with self.subTest(first=first, value=value, behind=behind):
                        self.raised(BadConfiguration, call, first + (value,) + behind, *rest, index=2)
        self.raised(BadConfiguration, call, (5,) + SQUARE, *rest, index=0)
        self.raised(BadConfiguration, call, (SQUARE[0],) + BODY[:4], *rest, index=1)
        self.raised(BadConfiguration, call, BODY[:3] + (BODY[1],), *rest, index=3)
        self.raised(BadConfiguration, call, (BODY[0], SQUARE[0], BODY[1]), *rest, index=1)
        flat = plain((0, 0), (1, 1), (2, 2))
        self.raised(BadConfiguration, call, flat + flat[:1], *rest, index=3)
        even = tuple((k, k * k, 0, 1) for k in range(4))
        more = SQUARE[1:] + flat[::2] + ((3, 4, 2),)
        for config in (flat, flat + SQUARE[1:], more, even, BODY + even[2:] + even[1:2]):
            with self.subTest(config=config):
                self.raised(NotGeneral, call, config, *rest)

    def not_cover(self, call, *rest):
        """A cover behind a configuration: wrong values of every kind."""
        one = ((0, 1, 2), (0, 2, 3))
        wrong = STRANGE + (
            one[:1], one[1:], one[::-1], one + one[:1], list(one), ((0, 1, 2), (0, 3, 2)), ((0, 1, 2), [0, 2, 3]),
            ((False, 1, 2), (0, 2, 3)), ((0, 1, 2), (0, 2, 4)), ((0, 1, 2), (0, 1, 3)), one + ((1, 2, 3),),
            ((0, 1, 2, 3),), ((0, 1), (1, 2)), (one,), {one[0]: 1, one[1]: 2}, deep(50), ((0, 1, 2), None),
        )
        for value in wrong:
            with self.subTest(value=value):
                self.raised(NotCover, call, SQUARE, value, *rest)
        self.raised(NotCover, call, BODY, ((0, 1, 2), (0, 1, 3), (0, 2, 3), (1, 2, 3)), *rest)
        self.raised(NotCover, call, BODY, ((0, 1, 2, 4), (0, 1, 3, 4), (0, 2, 3, 4)), *rest)
        self.raised(NotCover, call, BODY, ((0, 1, 2, 3), (0, 1, 2, 4)), *rest)
