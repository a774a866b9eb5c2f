"""Promise [24]: dependencies of circuits and their two parts."""

from math import gcd

from meshcore.circuits import dependency, radon_parts
from meshcore.errors import BadIndexes
from tests.helpers import LIMIT, STRANGE, deep, seeded
from tests.solids import BODY, INSIDE, SQUARE, Solid, all_circuits, dependency_by_words, some_config, spot


class Circuits(Solid):

    def holds(self, config, circuit):
        row = dependency(config, circuit)
        self.assertIsInstance(row, tuple)
        self.assertEqual([one.__class__ for one in row], [int] * len(circuit))
        self.assertEqual((gcd(*row), sum(row)), (1, 0))
        self.assertGreater(row[0], 0)
        for side in range(len(config[0]) - 1):
            self.assertEqual(sum(one * spot(config[k])[side] for k, one in zip(circuit, row)), 0)
        self.assertEqual(row, dependency_by_words(config, circuit))
        first, second, p = radon_parts(config, circuit)
        self.assertEqual(first, tuple(k for k, one in zip(circuit, row) if one > 0))
        self.assertEqual(second, tuple(k for k, one in zip(circuit, row) if one < 0))
        self.assertEqual((len(p), gcd(*p)), (len(config[0]), 1))
        self.assertGreater(p[-1], 0)
        weights = dict(zip(circuit, row))
        for part in (first, second):
            # all weights of a part have one sign: so this mixture lies in the hull of the part
            whole = sum(weights[k] for k in part)
            for side in range(len(config[0]) - 1):
                total = sum(weights[k] * spot(config[k])[side] for k in part)
                self.assertEqual(total / whole, spot(p)[side])

    def test_dependency(self):
        self.assertEqual(dependency(SQUARE, (0, 1, 2, 3)), (1, -1, 1, -1))
        self.assertEqual(dependency(INSIDE, (0, 1, 2, 3)), (3, 1, 2, -6))
        self.assertEqual(dependency(INSIDE[::-1], (0, 1, 2, 3)), (6, -2, -1, -3))
        self.assertEqual(dependency(BODY, (0, 1, 2, 3, 4)), (1, 1, 1, 1, -4))

    def test_radon_parts(self):
        self.assertEqual(radon_parts(SQUARE, (0, 1, 2, 3)), ((0, 2), (1, 3), (3, 2, 2)))
        self.assertEqual(radon_parts(INSIDE, (0, 1, 2, 3)), ((0, 1, 2), (3,), (1, 2, 1)))
        self.assertEqual(radon_parts(INSIDE[::-1], (0, 1, 2, 3)), ((0,), (1, 2, 3), (1, 2, 1)))
        self.assertEqual(radon_parts(BODY, (0, 1, 2, 3, 4)), ((0, 1, 2, 3), (4,), (1, 1, 1, 1)))
        crossed = ((0, 0, 0, 1), (6, 0, 0, 1), (0, 6, 0, 1), (1, 1, -3, 1), (1, 1, 3, 1))
        self.assertEqual(radon_parts(crossed, (0, 1, 2, 3, 4)), ((0, 1, 2), (3, 4), (1, 1, 0, 1)))

    def test_any_circuits(self):
        rows = seeded(91)
        for d in (2, 3):
            for many in (d + 2, d + 3, 8):
                for size, most in ((9, 1), (9, 5), (LIMIT, LIMIT)):
                    config = some_config(rows, d, many, size, most)
                    for circuit in all_circuits(config)[::3]:
                        self.holds(config, circuit)

    def test_wrong_configurations(self):
        for call in (dependency, radon_parts):
            self.bad_config(call, (0, 1, 2, 3))
            self.bad_config(call, None)

    def test_bad_indexes(self):
        wrong = STRANGE + (
            (0, 1, 2), (0, 1, 2, 2), (0, 1, 3, 2), (1, 0, 2, 3), (0, 1, 2, 4), (-1, 0, 1, 2), [0, 1, 2, 3], "0123",
            (False, 1, 2, 3), (0, True, 2, 3), (0, 1, 2, "3"), (0, 1, 2, None), (0, 1, 2, (3,)), (0, 1, 2, [3]),
            ((0, 1, 2, 3),), deep(50), (0, 1, 2, 3, 4), {0: 1, 1: 2, 2: 3, 3: 4}, (0, 1, 2, 10 ** 30),
        )
        for call in (dependency, radon_parts):
            for value in wrong:
                with self.subTest(value=value):
                    self.raised(BadIndexes, call, SQUARE, value)
            for value in ((0, 1, 2, 3), (0, 1, 2, 3, 5), (0, 1, 2, 4, 3), [0, 1, 2, 3, 4], None):
                self.raised(BadIndexes, call, BODY, value)
            # a simplex has no circuit
            self.raised(BadIndexes, call, SQUARE[:3], (0, 1, 2))
            self.raised(BadIndexes, call, BODY[:4], (0, 1, 2, 3))
