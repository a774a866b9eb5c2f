"""Promises [43] and [44]: ways or barriers, least lengths, free parts."""

from fractions import Fraction

from meshcore.barriers import connection, free_cells, inner_clusters, region_count, shortest, shows_barrier
from meshcore.boxes import shows_way
from tests.helpers import STRANGE, deep, seeded
from tests.worlds import EMPTY, RING, SPLIT, CheckedWorlds, is_free_pair, lengths_from, moved, places_of, some_world


def block(world, k, u, v):
    """Whether a pair of fractions is in block k."""
    (x, y, a, b), walls, (w, h) = world
    if k < len(walls):
        left, low, right, high = walls[k]
        return left - w < u < right and low - h < v < high
    return (u < x, u > a - w, v < y, v > b - h)[k - len(walls)]


def side_counts(one, other, place):
    (p, q), (r, s) = one, other
    u, v = 2 * place[0], 2 * place[1]
    if (q > v) == (s > v):
        return False
    return p + Fraction((r - p) * (v - q), s - q) > u


def is_barrier(world, start, goal, value):
    """By the words, for a tuple of triples of integers."""
    many = len(value)
    pairs = [(p, q) for _, p, q in value]
    for k, (p, q) in enumerate(pairs):
        for at in (value[k][0], value[(k + 1) % many][0]):
            if not 0 <= at < len(world[1]) + 4 or not block(world, at, Fraction(p, 2), Fraction(q, 2)):
                return False
    rounds = []
    for place in (start, goal):
        rounds.append(sum(side_counts(pairs[k], pairs[(k + 1) % many], place) for k in range(many)) % 2)
    return many > 0 and rounds[0] != rounds[1]


def parts_by_steps(world):
    """The free places with integers, in groups that steps of length 1 join."""
    left = [place for place in places_of(world) if is_free_pair(world, *place)]
    found = []
    while left:
        group = lengths_from(world, left[0])
        found.append(group)
        left = [place for place in left if place not in group]
    return found


def cells_by_words(world):
    (x, y, a, b), walls, (w, h) = world
    us, vs = {x, a - w}, {y, b - h}
    for p, q, r, s in walls:
        us |= {one for one in (p - w, r) if x <= one <= a - w}
        vs |= {one for one in (q - h, s) if y <= one <= b - h}
    # each second number lies halfway between its neighbours
    us, vs = with_halves(sorted(us)), with_halves(sorted(vs))
    counts = [0, 0, 0]
    for i, u in enumerate(us):
        for j, v in enumerate(vs):
            counts[i % 2 + j % 2] += is_free_pair(world, u, v)
    return tuple(counts)


def with_halves(numbers):
    found = [Fraction(numbers[0])]
    for one, other in zip(numbers, numbers[1:]):
        found.extend([Fraction(one + other, 2), Fraction(other)])
    return found


def clusters_by_words(world):
    """Clusters of blocks of walls that no chain of common pairs joins with the outside."""
    (x, y, a, b), walls, (w, h) = world
    blocks = [(p - w, q - h, r, s) for p, q, r, s in walls]
    left = list(range(len(blocks)))
    count = 0
    while left:
        group = [left.pop()]
        for k in group:
            for other in list(left):
                one, two = blocks[k], blocks[other]
                if max(one[0], two[0]) < min(one[2], two[2]) and max(one[1], two[1]) < min(one[3], two[3]):
                    left.remove(other)
                    group.append(other)
        rows = [blocks[k] for k in group]
        count += all(p >= x and q >= y and r <= a - w and s <= b - h for p, q, r, s in rows)
    return count


def worlds(seed, count, size=5, most=8):
    rows = seeded(seed)
    return [some_world(rows, size, rows.choice((0, 3, most, most)), rows.choice((3, size + 2))) for _ in range(count)]


class Connection(CheckedWorlds):

    def connection_holds(self, world, start, goal, length):
        found = connection(world, start, goal)
        self.assertIs(found.__class__, tuple)
        self.assertEqual(len(found), 2)
        self.assertEqual(shortest(world, start, goal), length)
        if length is None:
            self.assertEqual(found[0], "barrier")
            self.assertTrue(is_barrier(world, start, goal, found[1]))
            self.assertIs(shows_barrier(world, start, goal, found[1]), True)
        else:
            self.assertEqual(found[0], "way")
            self.assertIs(shows_way(world, start, goal, found[1]), True)

    def test_ordinary(self):
        self.connection_holds(SPLIT, (0, 0), (3, 6), 9)
        self.connection_holds(SPLIT, (0, 0), (8, 0), None)
        self.connection_holds(EMPTY, (0, 0), (7, 6), 13)
        self.connection_holds(RING, (8, 8), (9, 9), 2)
        self.connection_holds(RING, (8, 8), (0, 0), None)
        self.connection_holds(RING, (0, 0), (18, 18), 36)

    def test_start_is_goal(self):
        self.assertEqual(connection(EMPTY, (3, 3), (3, 3)), ("way", ((3, 3),)))
        self.assertEqual(shortest(EMPTY, (3, 3), (3, 3)), 0)
        full = ((-2, 3, 4, 8), (), (6, 5))
        self.connection_holds(full, (-2, 3), (-2, 3), 0)

    def test_a_gap_that_just_fits(self):
        walls = ((4, 0, 5, 3), (4, 5, 5, 9))
        for h, length in ((1, 14), (2, 14), (3, None)):
            self.connection_holds(((0, 0, 9, 9), walls, (1, h)), (0, 0), (8, 0), length)

    def test_walls_that_touch_and_overlap(self):
        touching = ((0, 0, 8, 8), ((0, 0, 4, 4), (4, 4, 8, 8)), (1, 1))
        self.connection_holds(touching, (0, 7), (7, 0), None)
        overlapping = ((0, 0, 9, 9), ((0, 3, 6, 4), (4, 2, 9, 6)), (1, 1))
        self.connection_holds(overlapping, (0, 0), (0, 8), None)
        outside = ((0, 0, 9, 9), ((-50, 3, -2, 4), (12, 3, 50, 4), (3, -9, 4, 0)), (1, 1))
        self.connection_holds(outside, (0, 0), (8, 8), 16)
        along = ((0, 0, 9, 9), ((1, 3, 9, 4),), (1, 1))
        self.connection_holds(along, (8, 0), (8, 8), 24)

    def test_blocks_that_touch_in_a_corner(self):
        # the blocks have the corner (3, 3) in common, and it is free: there is just one way through
        world = ((0, 0, 7, 7), ((0, 0, 3, 3), (4, 4, 7, 7)), (1, 1))
        self.connection_holds(world, (0, 6), (6, 0), 12)
        self.assertIn((3, 3), connection(world, (0, 6), (6, 0))[1])
        self.connection_holds((world[0], ((0, 0, 3, 3), (3, 3, 7, 7)), (1, 1)), (0, 6), (6, 0), None)

    def test_a_ring_without_the_outside(self):
        self.assertNotIn(True, [k >= 4 for k, _, _ in connection(RING, (8, 8), (0, 0))[1]])
        turned = ((0, 0, 20, 20), ((5, 5, 15, 7), (13, 5, 15, 12), (8, 13, 15, 15), (5, 8, 7, 15)), (2, 2))
        self.connection_holds(turned, (9, 9), (0, 0), None)

    def test_like_steps(self):
        rows = seeded(143)
        kinds = {"way": 0, "barrier": 0}
        for world in worlds(144, 250):
            free = [place for place in places_of(world) if is_free_pair(world, *place)]
            for _ in range(4 if free else 0):
                start, goal = rows.choice(free), rows.choice(free)
                length = lengths_from(world, start).get(goal)
                self.connection_holds(world, start, goal, length)
                kinds["barrier" if length is None else "way"] += 1
        self.assertGreater(min(kinds.values()), 20)

    def test_rings_of_walls(self):
        rows = seeded(150)
        shut = 0
        for _ in range(120):
            k = [rows.randint(0, 2) for _ in range(8)]
            walls = [(4 - k[0], 4, 10 + k[1], 5), (10, 4 - k[2], 11, 9 + k[3]), (5 - k[4], 10, 10 + k[5], 11),
                     (4, 5 - k[6], 5, 9 + k[7])]
            for _ in range(rows.randint(0, 4)):
                x, y = rows.randint(1, 13), rows.randint(1, 13)
                walls.append((x, y, x + rows.randint(1, 2), y + rows.randint(1, 2)))
            rows.shuffle(walls)
            world = ((0, 0, 15, 15), tuple(walls), (rows.randint(1, 2), rows.randint(1, 2)))
            free = [place for place in places_of(world) if is_free_pair(world, *place)]
            inside = [(u, v) for u, v in free if 5 <= u <= 8 and 5 <= v <= 8]
            if inside:
                start, goal = rows.choice(inside), rows.choice(free)
                length = lengths_from(world, start).get(goal)
                self.connection_holds(world, start, goal, length)
                self.connection_holds(world, goal, start, length)
                shut += length is None
        self.assertGreater(shut, 20)

    def test_worlds_somewhere_else(self):
        rows = seeded(153)
        shut = 0
        for world in [SPLIT] + worlds(154, 60):
            free = [place for place in places_of(world) if is_free_pair(world, *place)]
            if not free:
                continue
            (u, v), (p, q) = rows.choice(free), rows.choice(free)
            length = lengths_from(world, (u, v)).get((p, q))
            shut += length is None
            for far, high in ((500, 700), (500, -700), (-500, 700), (-500, -700)):
                other = moved(world, far, high)
                self.connection_holds(other, (u + far, v + high), (p + far, q + high), length)
                self.assertEqual(region_count(other), region_count(world))
                self.assertEqual(free_cells(other), free_cells(world))
                self.assertEqual(inner_clusters(other), inner_clusters(world))
        self.assertGreater(shut, 5)

    def test_large_worlds(self):
        rows = seeded(145)
        for _ in range(40):
            walls = []
            for _ in range(8):
                x, y = rows.randint(-1000, 900), rows.randint(-1000, 900)
                walls.append((x, y, rows.randint(x + 1, 1000), rows.randint(y + 1, 1000)))
            world = ((-1000, -1000, 1000, 1000), tuple(walls), (rows.randint(1, 300), rows.randint(1, 300)))
            free = [place for place in [(rows.randint(-1000, 1000), rows.randint(-1000, 1000)) for _ in range(30)]
                    if is_free_pair(world, *place)]
            for start, goal in zip(free, free[1:]):
                kind, value = connection(world, start, goal)
                if kind == "way":
                    self.assertIs(shows_way(world, start, goal, value), True)
                    straight = abs(start[0] - goal[0]) + abs(start[1] - goal[1])
                    self.assertGreaterEqual(shortest(world, start, goal), straight)
                else:
                    self.assertTrue(is_barrier(world, start, goal, value))
                    self.assertIsNone(shortest(world, start, goal))

    def test_wrong(self):
        self.bad_ends(connection)
        self.bad_ends(shortest)


class ShowsBarrier(CheckedWorlds):

    GOOD = ((0, 8, -1), (3, 17, -1), (2, 17, 13), (4, 8, 13))

    def test_ordinary(self):
        good = self.GOOD
        self.assertTrue(is_barrier(SPLIT, (0, 0), (8, 0), good))
        self.assertIs(shows_barrier(SPLIT, (0, 0), (8, 0), good), True)
        self.assertIs(shows_barrier(SPLIT, (8, 6), (3, 3), good), True)
        self.assertIs(shows_barrier(SPLIT, (0, 0), (3, 0), good), False)
        self.assertIs(shows_barrier(SPLIT, (6, 0), (8, 5), good), False)
        self.assertIs(shows_barrier(SPLIT, (0, 0), (8, 0), good[1:] + good[:1]), True)

    def test_links_that_are_wrong(self):
        good = self.GOOD
        for value in ((), good[:1], good[:2], good[:3], good[1:], list(good), good[::-1], good * 2, (good,),
                      ((0, 8, -1), (3, 17, 0), (2, 17, 13), (4, 8, 13)), ((0, 10, -1),) + good[1:],
                      ((5, 8, -1),) + good[1:], ((-5, 8, -1),) + good[1:], ((0, 8),) + good[1:],
                      ((0, 8, -1, 0),) + good[1:], ([0, 8, -1],) + good[1:], ((False, 8, -1),) + good[1:],
                      (("0", 8, -1),) + good[1:], ((0, 8, None),) + good[1:], ((1, 8, -1),) + good[1:],
                      ((10 ** 30, 8, -1),) + good[1:], good[:3] + (None,), good[:3] + ((4, 8, 12),),
                      good[:3] + ((-1, 8, 13),),
                      ((0, 8, -1), (3, 8, -1), (0, 8, -1), (3, 8, -1))):
            with self.subTest(value=value):
                self.assertIs(shows_barrier(SPLIT, (0, 0), (8, 0), value), False)
        self.assertIs(shows_barrier(SPLIT, (0, 0), (8, 0), good * 3), True)
        for value in STRANGE + (deep(50), "ab", (((0, 8, -1),),)):
            self.assertIs(shows_barrier(SPLIT, (0, 0), (8, 0), value), False)

    def test_sides_that_count(self):
        # the same ring, with corners far away and with some at the height of a place
        for value in (((0, 8, -1), (3, 10 ** 30, -1), (2, 10 ** 30, 13), (4, 8, 13)),
                      ((0, 8, -1), (3, 99, -9), (2, 99, 0), (2, 44, 12), (2, 20, 0), (2, 17, 13), (4, 8, 13)),
                      ((0, 7, -1), (3, 9 ** 20, -8), (2, 18, 14 ** 9), (4, 9, 13)),
                      ((0, 8, -1), (3, -9, -1), (1, -9, 99), (4, 8, 13))):
            for start, goal in (((0, 0), (8, 0)), ((3, 6), (5, 6)), ((2, 3), (7, 1)), ((0, 0), (1, 1)),
                                ((5, 5), (8, 6))):
                told = is_barrier(SPLIT, start, goal, value)
                self.assertIs(shows_barrier(SPLIT, start, goal, value), told)
                self.assertEqual(told, start[0] < 4 < goal[0])

    def test_like_the_words(self):
        rows = seeded(146)
        good = bad = 0
        for world in worlds(147, 500, 4, 6):
            free = [place for place in places_of(world) if is_free_pair(world, *place)]
            if len(free) < 2:
                continue
            start, goal = rows.choice(free), rows.choice(free)
            kind, value = connection(world, start, goal)
            if kind == "barrier":
                spots = list(value)
                for _ in range(3):
                    k = rows.randint(0, len(spots) - 1)
                    at, p, q = spots[k]
                    spots[k] = (at, p + rows.randint(-1, 1), q + rows.randint(-1, 1))
                    third = rows.choice(free)
                    for one, other in ((start, goal), (goal, start), (start, third), (third, goal)):
                        told = is_barrier(world, one, other, tuple(spots))
                        self.assertIs(shows_barrier(world, one, other, tuple(spots)), told)
                        good += told
                        bad += not told
        self.assertGreater(min(good, bad), 40)

    def test_wrong(self):
        self.bad_ends(shows_barrier, self.GOOD)
        self.bad_ends(shows_barrier, None)


class Regions(CheckedWorlds):

    def test_ordinary(self):
        self.assertEqual((region_count(SPLIT), free_cells(SPLIT), inner_clusters(SPLIT)), (2, (8, 8, 2), 0))
        self.assertEqual((region_count(EMPTY), free_cells(EMPTY), inner_clusters(EMPTY)), (1, (4, 4, 1), 0))
        self.assertEqual(region_count(RING), 2)
        self.assertEqual(inner_clusters(RING), 1)

    def test_a_box_as_large_as_the_room(self):
        full = ((-2, 3, 4, 8), (), (6, 5))
        self.assertEqual((region_count(full), free_cells(full), inner_clusters(full)), (1, (1, 0, 0), 0))
        wide = ((-2, 3, 4, 8), (), (6, 2))
        self.assertEqual((region_count(wide), free_cells(wide), inner_clusters(wide)), (1, (2, 1, 0), 0))
        shut = ((-2, 3, 4, 8), ((0, 5, 1, 6),), (6, 5))
        self.assertEqual((region_count(shut), free_cells(shut), inner_clusters(shut)), (0, (0, 0, 0), 0))
        cut = ((-2, 3, 4, 8), ((0, 5, 1, 6),), (6, 2))
        self.assertEqual((region_count(cut), free_cells(cut), inner_clusters(cut)), (2, (2, 0, 0), 0))

    def test_regions_that_touch_in_a_corner(self):
        # blocks that have no pair in common but touch in a corner leave one way through this corner
        world = ((0, 0, 9, 9), ((2, 2, 5, 5), (6, 6, 9, 9)), (1, 1))
        self.assertEqual(inner_clusters(world), 1)
        self.assertEqual(region_count(world), 1)
        corner = ((0, 0, 10, 10), ((0, 6, 4, 7), (4, 0, 5, 5)), (1, 1))
        self.assertEqual(region_count(corner), len(parts_by_steps(corner)))
        crossed = ((0, 0, 9, 9), ((1, 5, 4, 9), (5, 1, 9, 4)), (1, 1))
        self.assertEqual(region_count(crossed), len(parts_by_steps(crossed)))
        touching = ((0, 0, 7, 7), ((0, 0, 3, 3), (4, 4, 7, 7)), (1, 1))
        self.assertEqual(region_count(touching), 1)
        self.assertEqual(free_cells(touching)[2], 2)

    def test_like_the_words(self):
        most = 0
        for world in worlds(148, 200) + worlds(149, 150, 9):
            parts = len(parts_by_steps(world))
            most = max(most, parts)
            self.assertEqual(region_count(world), parts)
            self.assertEqual(free_cells(world), cells_by_words(world))
            self.assertEqual(inner_clusters(world), clusters_by_words(world))
            points, segments, rectangles = free_cells(world)
            self.assertEqual(parts, points - segments + rectangles + inner_clusters(world))
        self.assertGreater(most, 3)

    def test_many_clusters(self):
        walls = tuple((x, y, x + 1, y + 1) for x in (4, 7, 10, 13) for y in (2, 5))
        world = ((0, 0, 20, 14), walls, (1, 1))
        self.assertEqual((region_count(world), inner_clusters(world)), (1, 8))
        self.assertEqual(inner_clusters(((0, 0, 20, 14), walls, (2, 2))), 8)
        self.assertEqual(inner_clusters(((0, 0, 20, 14), walls, (3, 1))), 2)
        self.assertEqual(inner_clusters(((0, 0, 20, 14), walls, (3, 3))), 0)

    def test_wrong(self):
        for call in (region_count, free_cells, inner_clusters):
            self.bad_world(call)
