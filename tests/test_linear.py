"""The linear algebra that stresses, dependencies and the regularity of covers build on."""

from meshcore.linear import alternative, determinant_of, null_row
from tests.helpers import Checked, seeded
from tests.solids import det


def product(one, other):
    return sum(left * right for left, right in zip(one, other))


class Linear(Checked):

    def test_determinants(self):
        self.assertEqual(determinant_of([[-7]]), -7)
        rows = seeded(80)
        for many in (1, 2, 3, 4, 5):
            for _ in range(20):
                table = [[rows.randint(-5, 5) for _ in range(many)] for _ in range(many)]
                self.assertEqual(determinant_of(table), det(table))

    def test_null_row(self):
        self.assertIsNone(null_row([], 0))
        self.assertEqual(null_row([], 2), [1, 0])
        self.assertEqual(null_row([[0, 0]], 2), [1, 0])
        self.assertIsNone(null_row([[2, 3], [4, 5]], 2))
        self.assertIn(null_row([[2, 3], [4, 6]], 2), ([-3, 2], [3, -2]))
        rows = seeded(81)
        kinds = [0, 0]
        for _ in range(400):
            many = rows.randint(1, 5)
            table = [[rows.randint(-2, 2) for _ in range(many)] for _ in range(rows.randint(many - 1, many + 1))]
            found = null_row(table, many)
            kinds[found is None] += 1
            if found is None:
                squares = [[product(one, other) for other in zip(*table)] for one in zip(*table)]
                self.assertNotEqual(det(squares), 0)
                continue
            self.assertEqual(len(found), many)
            self.assertNotEqual(found, [0] * many)
            self.assertEqual([product(row, found) for row in table], [0] * len(table))
        self.assertGreater(min(kinds), 50)

    def test_alternative(self):
        self.assertEqual(len(alternative([], 3)[0]), 3)
        self.assertEqual(alternative([[0, 0]], 2), (None, [1]))
        self.assertEqual(alternative([[1, 2], [-1, -2]], 2), (None, [1, 1]))
        self.assertEqual(alternative([[2], [-3]], 1), (None, [3, 2]))
        rows = seeded(82)
        kinds = [0, 0]
        for _ in range(1500):
            many, count, size = rows.randint(1, 5), rows.randint(0, 9), rows.choice((1, 2, 9))
            table = [[rows.randint(-size, size) for _ in range(many)] for _ in range(count)]
            numbers, weights = alternative(table, many)
            kinds[numbers is None] += 1
            if numbers is not None:
                self.assertIsNone(weights)
                self.assertEqual(len(numbers), many)
                self.assertTrue(all(product(row, numbers) > 0 for row in table))
                continue
            self.assertEqual(len(weights), count)
            self.assertTrue(min(weights) >= 0 and max(weights) > 0)
            self.assertEqual([product(column, weights) for column in zip(*table)], [0] * many)
        self.assertGreater(min(kinds), 200)

    def test_alternative_comes_to_an_end(self):
        # many weights that can grow by nothing only: E. Beale's example and its like
        table = [[1, 2, 0], [-240, -36, 0], [-1, -1, -50], [36, 3, 0], [0, 0, 1], [4, 2, 0], [-1, 0, 0], [0, -1, 0]]
        for k in range(len(table)):
            numbers, weights = alternative(table[k:] + table[:k], 3)
            self.assertIsNone(numbers)
            self.assertEqual([product(column, weights) for column in zip(*(table[k:] + table[:k]))], [0] * 3)
