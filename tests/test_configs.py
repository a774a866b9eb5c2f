"""Promise [23]: configurations, orientations and contents of simplices."""

from itertools import combinations, permutations

from meshcore.configs import content, orientation
from meshcore.errors import BadConfiguration, BadIndexes, NotGeneral
from tests.helpers import LIMIT, STRANGE, deep, on_curve, plain, rat, seeded, sign
from tests.solids import BODY, INSIDE, SQUARE, Solid, signed, some_config


class Configs(Solid):

    def test_orientation(self):
        self.assertEqual(orientation(SQUARE, (0, 1, 2)), 1)
        self.assertEqual(orientation(SQUARE, (1, 0, 2)), -1)
        self.assertEqual(orientation(SQUARE, (3, 2, 0)), -1)
        self.assertEqual(orientation(BODY, (0, 1, 2, 3)), 1)
        self.assertEqual(orientation(BODY, (3, 0, 1, 2)), -1)
        self.assertEqual(orientation(BODY, (4, 1, 2, 3)), 1)
        self.assertEqual(orientation(SQUARE[:3], (2, 1, 0)), -1)
        self.assertEqual(orientation(BODY[:4], (1, 0, 3, 2)), 1)

    def test_content(self):
        self.assertEqual(content(SQUARE, (0, 1, 2)), (6, 1))
        self.assertEqual(content(SQUARE, (2, 1, 0)), (6, 1))
        self.assertEqual(content(BODY, (0, 1, 2, 3)), (64, 1))
        self.assertEqual(content(BODY, (4, 1, 2, 3)), (16, 1))
        halves = ((0, 0, 1), (1, 0, 2), (0, 1, 3))
        self.assertEqual(content(halves, (0, 1, 2)), (1, 6))
        corner = ((0, 0, 0, 1), (1, 0, 0, 2), (0, 1, 0, 3), (0, 0, 1, 5))
        self.assertEqual(content(corner, (3, 2, 1, 0)), (1, 30))
        self.assertEqual(content(((1, 1, 2), (3, 1, 2), (1, 5, 2)), (0, 1, 2)), (2, 1))

    def test_like_fractions(self):
        rows = seeded(90)
        for d in (2, 3):
            for many, size, most in ((d + 1, 4, 3), (8, 20, 2), (8, LIMIT, LIMIT)):
                config = some_config(rows, d, many, size, most)
                for indexes in list(permutations(range(many), d + 1))[::7]:
                    told = signed(config, indexes)
                    self.assertEqual(orientation(config, indexes), sign(told))
                    self.assertEqual(content(config, indexes), rat(abs(told)))

    def test_greatest_configurations(self):
        curve = tuple((k, k * k, k * k * k, 1) for k in range(8))
        for indexes in combinations(range(8), 4):
            self.assertEqual(orientation(curve, indexes), 1)
        for indexes in combinations(range(8), 3):
            self.assertEqual(orientation(on_curve(8), indexes), 1)

    def test_wrong_configurations(self):
        for call in (orientation, content):
            self.bad_config(call, (0, 1, 2))
            self.bad_config(call, None)

    def test_three_space_points(self):
        for call in (orientation, content):
            self.raised(BadConfiguration, call, BODY[:3], (0, 1, 2), index=None)
            self.raised(BadConfiguration, call, (BODY[0], BODY[1], BODY[0]), (0, 1, 2), index=2)
            self.raised(BadConfiguration, call, (BODY[0], 5, BODY[0]), (0, 1, 2), index=1)
            # on a line, too
            line = ((0, 0, 0, 1), (1, 1, 1, 1), (2, 2, 2, 1))
            self.raised(BadConfiguration, call, line, (0, 1, 2), index=None)

    def test_not_general(self):
        even = BODY[:3] + ((7, 9, 0, 1),)
        for call in (orientation, content):
            self.raised(NotGeneral, call, even, (0, 1, 2, 3))
            self.raised(NotGeneral, call, BODY + ((5, 5, 0, 1),), None)
            self.raised(NotGeneral, call, INSIDE + ((2, 4, 1),), None)
            self.raised(NotGeneral, call, plain((0, 0), (2, 2), (5, 5)), (0, 0, 0))
        # three points of space may lie on a line only if a fourth one is in a plane with them
        self.raised(NotGeneral, orientation, BODY + ((2, 0, 0, 1),), (0, 1, 2, 3))

    def test_bad_indexes(self):
        wrong = STRANGE + (
            (0, 1, 1), (0, 1, 0), (0, 1, 4), (-1, 0, 1), [0, 1, 2], "012", (0, 1), (0, 1, 2, 3), (False, 1, 2),
            (0, True, 2), (0, 1, "2"), (0, 1, None), (0, 1, (2,)), (0, 1, [2]), ((0, 1, 2),), deep(50),
            (0, 1, 10 ** 30), {0: 1, 1: 2, 2: 0},
        )
        for call in (orientation, content):
            for value in wrong:
                with self.subTest(value=value):
                    self.raised(BadIndexes, call, SQUARE, value)
            for value in ((0, 1, 2), (0, 1, 2, 2), (0, 1, 2, 5), (0, 1, 2, 3, 4), [0, 1, 2, 3], None):
                self.raised(BadIndexes, call, BODY, value)
