"""Promise [42]: free places and ways."""

from fractions import Fraction

from meshcore.boxes import is_free, shows_way
from meshcore.errors import BadPlace
from tests.helpers import STRANGE, deep, seeded
from tests.worlds import BAD_PLACES, EMPTY, RING, SPLIT, CheckedWorlds, is_free_pair, places_of, some_world


def is_way(world, start, goal, value):
    """By the words; all limits are integers, so halves tell all pairs of a segment."""
    if value[0] != start or value[-1] != goal:
        return False
    for (u, v), (p, q) in zip(value, value[1:]):
        if (u, v) == (p, q) or (u != p and v != q):
            return False
        steps = 2 * max(abs(u - p), abs(v - q))
        for k in range(steps + 1):
            part = Fraction(k, steps)
            if not is_free_pair(world, u + part * (p - u), v + part * (q - v)):
                return False
    return True


class Free(CheckedWorlds):

    def test_ordinary(self):
        for place, told in (((0, 0), True), ((7, 6), True), ((8, 6), False), ((7, 7), False), ((-1, 0), False),
                            ((0, -1), False), ((3, 3), True)):
            self.assertIs(is_free(EMPTY, place), told)

    def test_walls_may_be_touched(self):
        for place, told in (((3, 0), True), ((4, 0), False), ((5, 0), True), ((4, 6), False), ((2, 6), True)):
            self.assertIs(is_free(SPLIT, place), told)
        low = ((0, 0, 9, 7), ((2, 2, 5, 4),), (2, 2))
        told = [(u, v) for u, v in places_of(low) if not (0 < u < 5 and 0 < v < 4)]
        self.assertEqual([place for place in places_of(low) if is_free(low, place)], told)

    def test_a_box_as_large_as_the_room(self):
        world = ((-2, 3, 4, 8), (), (6, 5))
        self.assertIs(is_free(world, (-2, 3)), True)
        for place in ((-1, 3), (-3, 3), (-2, 2), (-2, 4)):
            self.assertIs(is_free(world, place), False)
        self.assertIs(is_free((world[0], ((-9, 0, -2, 9), (4, 0, 9, 9)), (6, 5)), (-2, 3)), True)
        self.assertIs(is_free((world[0], ((-9, 0, -1, 9),), (6, 5)), (-2, 3)), False)

    def test_largest_numbers(self):
        world = ((-1000, -1000, 1000, 1000), ((-1000, -1000, 1000, 999),) * 8, (2000, 1))
        self.assertIs(is_free(world, (-1000, 999)), True)
        self.assertIs(is_free(world, (-1000, 998)), False)
        self.assertIs(is_free(world, (10 ** 40, -10 ** 40)), False)

    def test_walls_inside_the_moved_box(self):
        world = ((0, 0, 9, 9), ((4, 4, 5, 5),), (7, 7))
        self.assertIs(is_free(world, (1, 1)), False)
        self.assertIs(is_free(((0, 0, 9, 9), ((-5, 4, -4, 5), (12, 4, 13, 5)), (7, 7)), (1, 1)), True)

    def test_like_areas(self):
        rows = seeded(141)
        for _ in range(60):
            world = some_world(rows, 6, rows.randint(0, 8))
            for u in range(-5, 11):
                for v in range(-5, 11):
                    self.assertIs(is_free(world, (u, v)), is_free_pair(world, u, v))

    def test_wrong(self):
        self.bad_world(is_free, (0, 0))
        self.bad_world(is_free, None)
        for value in BAD_PLACES:
            with self.subTest(value=value):
                self.raised(BadPlace, is_free, EMPTY, value)


class Ways(CheckedWorlds):

    def test_ordinary(self):
        good = ((0, 0), (7, 0), (7, 6))
        self.assertIs(shows_way(EMPTY, (0, 0), (7, 6), good), True)
        self.assertIs(shows_way(EMPTY, (0, 0), (7, 6), ((0, 0), (0, 6), (3, 6), (1, 6), (7, 6))), True)
        for value in (good[:2], good[1:], good[::-1], list(good), (), ((0, 0), (7, 6)),
                      ((0, 0), (0, 0), (7, 0), (7, 6)),
                      good + good[2:], ((0, 0), (8, 0), (8, 6), (7, 6)), ((0, 0), (0, -1), (7, -1), (7, 6)),
                      ((0, 0), [7, 0], (7, 6)), ((0, 0), (7, False), (7, 6)), ((0, 0), (7,), (7, 6)), (good,),
                      ((0, 0), (7, 0, 0), (7, 6)), ((0, 0), None, (7, 6)), ((0, 0), (10 ** 30, 0), (7, 0), (7, 6))):
            with self.subTest(value=value):
                self.assertIs(shows_way(EMPTY, (0, 0), (7, 6), value), False)

    def test_start_is_goal(self):
        self.assertIs(shows_way(EMPTY, (3, 3), (3, 3), ((3, 3),)), True)
        self.assertIs(shows_way(EMPTY, (3, 3), (3, 3), ((3, 3), (3, 4), (3, 3))), True)
        self.assertIs(shows_way(EMPTY, (3, 3), (3, 3), ((3, 3), (3, 3))), False)
        self.assertIs(shows_way(EMPTY, (3, 3), (3, 3), ()), False)
        self.assertIs(shows_way(EMPTY, (1, 0), (1, 0), ((True, 0),)), False)
        self.assertIs(shows_way(EMPTY, (1, 0), (1, 0), ((1, False),)), False)

    def test_through_a_wall(self):
        self.assertIs(shows_way(SPLIT, (0, 0), (8, 0), ((0, 0), (8, 0))), False)
        gap = ((0, 0, 9, 7), ((4, 0, 5, 3), (4, 4, 5, 7)), (1, 1))
        self.assertIs(shows_way(gap, (0, 0), (8, 0), ((0, 0), (0, 3), (8, 3), (8, 0))), True)
        self.assertIs(shows_way(gap, (0, 0), (8, 0), ((0, 0), (0, 2), (8, 2), (8, 0))), False)
        self.assertIs(shows_way(gap, (0, 0), (8, 0), ((0, 0), (0, 4), (8, 4), (8, 0))), False)
        narrow = (gap[0], gap[1], (1, 2))
        self.assertIs(shows_way(narrow, (0, 0), (8, 0), ((0, 0), (0, 3), (8, 3), (8, 0))), False)

    def test_between_walls_that_touch(self):
        # the corner of one wall touches that of another: nothing gets through
        world = ((0, 0, 8, 8), ((0, 0, 4, 4), (4, 4, 8, 8)), (1, 1))
        self.assertIs(shows_way(world, (3, 4), (4, 3), ((3, 4), (4, 4), (4, 3))), False)
        self.assertIs(shows_way(world, (3, 4), (4, 3), ((3, 4), (3, 3), (4, 3))), False)
        # along a wall
        self.assertIs(shows_way(world, (0, 4), (3, 4), ((0, 4), (3, 4))), True)
        self.assertIs(shows_way(world, (4, 0), (4, 3), ((4, 0), (4, 3))), True)

    def test_like_the_words(self):
        rows = seeded(142)
        good = 0
        for _ in range(400):
            world = some_world(rows, 5, rows.randint(0, 4), 3)
            free = [place for place in places_of(world) if is_free(world, place)]
            if not free:
                continue
            value = [rows.choice(free)]
            for _ in range(rows.randint(0, 3)):
                u, v = value[-1]
                other = rows.randint(-3, 8)
                value.append(rows.choice([(u, v), (other, v), (u, other), rows.choice(free)]))
            if value[-1] in free:
                told = is_way(world, value[0], value[-1], value)
                good += told and len(value) > 1
                self.assertIs(shows_way(world, value[0], value[-1], tuple(value)), told)
        self.assertGreater(good, 20)

    def test_any_value(self):
        for value in STRANGE + (deep(50), "ab", ((0, 0), (0, 1), 5), (((0, 0),),)):
            with self.subTest(value=value):
                self.assertIs(shows_way(EMPTY, (0, 0), (0, 1), value), False)
        self.assertIs(shows_way(RING, (0, 0), (9, 9), ((0, 0), (9, 0), (9, 9))), False)

    def test_wrong(self):
        self.bad_ends(shows_way, ((0, 0),))
        self.bad_ends(shows_way, None)
