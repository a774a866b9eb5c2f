"""What the tests of moved boxes share: worlds, free pairs by the words, errors."""

from fractions import Fraction

from meshcore.errors import BadPlace, BadWorld, NotFree
from tests.helpers import STRANGE, Checked, deep

EMPTY = ((0, 0, 9, 7), (), (2, 1))
SPLIT = ((0, 0, 9, 7), ((4, 0, 5, 7),), (1, 1))
# four walls around a place in the middle
RING = ((0, 0, 20, 20), ((5, 5, 15, 7), (5, 13, 15, 15), (5, 5, 7, 15), (13, 5, 15, 15)), (2, 2))

BAD_BOXES = tuple(value for value in STRANGE if value != (1, 2, 3, 4)) + (
    (0, 0, 0, 5), (0, 0, 5, 0), (5, 0, 0, 5), (0, 5, 5, 0), (0, 0, 1001, 5), (-1001, 0, 5, 5), (0, 0, 5, 10 ** 30),
    (0, 0, 5), (0, 0, 5, 5, 5), [0, 0, 5, 5], (0, 0, True, 5), (False, 0, 5, 5), ("0", 0, 5, 5), (0, 0, 5, None),
    ((0, 0, 5, 5),), deep(50),
)
BAD_PLACES = [value for value in STRANGE if value != (1, 2)] + [
    [0, 0], (0,), (0, 0, 0), (True, 0), (0, False), ("0", 0), (0, None), ((0, 0),), ((0, 1), (0, 1)), deep(50),
    (0, (0,)),
]


def some_world(rows, size, walls, longest=4):
    """A world with a room near the origin; walls, many of them thin, may stand anywhere near the room."""
    room = (rows.randint(-3, 0), rows.randint(-3, 0), rows.randint(size, size + 3), rows.randint(size, size + 3))
    found = []
    for _ in range(walls):
        x, y = rows.randint(-4, size + 3), rows.randint(-4, size + 3)
        long, short = rows.randint(1, longest), rows.randint(1, 2)
        found.append(rows.choice([(x, y, x + long, y + short), (x, y, x + short, y + long)]))
    width = (rows.choice((1, 1, 1, 2, 3)), rows.choice((1, 1, 1, 2, 3)))
    return (room, tuple(found), width)


def moved(world, far, high):
    """The same world somewhere else."""
    room, walls, size = world
    boxes = [(x + far, y + high, a + far, b + high) for x, y, a, b in (room,) + walls]
    return (boxes[0], tuple(boxes[1:]), size)


def is_free_pair(world, u, v):
    """Whether the moved box at a pair of fractions lies in the room and shares no area with a wall."""
    (x, y, a, b), walls, (w, h) = world
    if u < x or v < y or u + w > a or v + h > b:
        return False
    for p, q, r, s in walls:
        if min(u + w, r) > max(u, p) and min(v + h, s) > max(v, q):
            return False
    return True


def places_of(world):
    (x, y, a, b), _, (w, h) = world
    return [(u, v) for u in range(x, a - w + 1) for v in range(y, b - h + 1)]


def is_unit_step_free(world, one, other):
    """All limits are integers: between two neighbouring integers all pairs are alike."""
    middle = (Fraction(one[0] + other[0], 2), Fraction(one[1] + other[1], 2))
    return is_free_pair(world, *one) and is_free_pair(world, *other) and is_free_pair(world, *middle)


def lengths_from(world, start):
    """The least lengths of ways, by steps of length 1."""
    found = {start: 0}
    todo = [start]
    for u, v in todo:
        for new in ((u + 1, v), (u - 1, v), (u, v + 1), (u, v - 1)):
            if new not in found and is_unit_step_free(world, (u, v), new):
                found[new] = found[u, v] + 1
                todo.append(new)
    return found


class CheckedWorlds(Checked):

    def bad_world(self, call, *rest):
        room, walls, size = SPLIT
        for value in STRANGE + (room, [room, walls, size], (room, walls), (room, walls, size, size), deep(50), "abc"):
            if not isinstance(value, tuple) or len(value) != 3:
                with self.subTest(value=value):
                    self.raised(BadWorld, call, value, *rest, index=None)
        for value in BAD_BOXES:
            with self.subTest(value=value):
                self.raised(BadWorld, call, (value, walls, size), *rest, index=0)
                self.raised(BadWorld, call, (value, None, None), *rest, index=0)
                self.raised(BadWorld, call, (room, (value,), size), *rest, index=1)
                self.raised(BadWorld, call, (room, walls + (value,), (0, 0)), *rest, index=1)
        for value in (None, [], [walls[0]], walls[0], walls * 9, "", {}, 0, True, {walls[0]: 1}, deep(50)):
            self.raised(BadWorld, call, (room, value, size), *rest, index=1)
        for value in BAD_PLACES + [(0, 1), (1, 0), (-1, 1), (1, -1), (10, 1), (1, 8), (10 ** 30, 1)]:
            with self.subTest(value=value):
                self.raised(BadWorld, call, (room, walls, value), *rest, index=2)

    def bad_ends(self, call, *rest):
        """World, start and goal: all their errors, in their order."""
        self.bad_world(call, (0, 0), (0, 0), *rest)
        self.bad_world(call, None, None, *rest)
        for value in BAD_PLACES:
            with self.subTest(value=value):
                for goal in ((0, 0), (4, 0), None):
                    self.raised(BadPlace, call, SPLIT, value, goal, *rest)
                self.raised(BadPlace, call, SPLIT, (0, 0), value, *rest)
                self.raised(NotFree, call, SPLIT, (4, 0), value, *rest)
        for value in ((4, 3), (-1, 0), (9, 0), (0, 7), (0, -1), (10 ** 30, 0), (4, 0)):
            self.raised(NotFree, call, SPLIT, value, (0, 0), *rest)
            self.raised(NotFree, call, SPLIT, (0, 0), value, *rest)
            self.raised(NotFree, call, SPLIT, value, None, *rest)
