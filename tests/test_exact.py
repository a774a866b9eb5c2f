"""The exact numbers that all promises build on: integers, ratios, ascending indexes."""

from fractions import Fraction

from meshcore.exact import are_indexes, by_value, common_divisor, is_ascending, is_less, is_ratio, is_whole
from meshcore.exact import plus, ratio, reduced, sign, times
from tests.helpers import Checked, deep, rat, seeded


class Exact(Checked):

    def test_integers(self):
        for value in (0, 1, -1, 10 ** 40):
            self.assertIs(is_whole(value), True)
        for value in (True, False, None, "1", (1,), [1], {}):
            self.assertIs(is_whole(value), False)
        self.assertEqual([sign(number) for number in (-5, 0, 10 ** 40)], [-1, 0, 1])

    def test_is_ratio(self):
        for value in ((0, 1), (1, 1), (-3, 2), (10 ** 40, 3)):
            self.assertIs(is_ratio(value), True)
        for value in ((0, 2), (2, 2), (1, 0), (0, 0), (1, -1), (-1, -2), (1,), (1, 2, 3), (), [1, 2], 1, None,
                      (True, 1), (1, True), ("1", 2), (1, "2"), (1, None), (deep(5000), 1), "12", {0: 1, 1: 2}):
            self.assertIs(is_ratio(value), False)

    def test_is_ascending(self):
        for value in ((), (0,), (4,), (0, 4), (0, 1, 2, 3, 4)):
            self.assertIs(is_ascending(value, 5), True)
        for value in ((5,), (-1,), (1, 1), (1, 0), (0, 5), (False,), (0, True), [0, 1], "01", None, (None,), (0, "1")):
            self.assertIs(is_ascending(value, 5), False)

    def test_are_indexes(self):
        for value in ((), (0,), (4, 0), (3, 1, 2), (4, 3, 2, 1, 0)):
            self.assertIs(are_indexes(value, 5), True)
        for value in ((5,), (-1,), (1, 1), (2, 0, 2), (0, 5), (False,), (2, True), [1, 0], "10", None, (None, 1),
                      (1, "0"), ((1,),), deep(5000), {1: 0}):
            self.assertIs(are_indexes(value, 5), False)

    def test_common_divisors(self):
        rows = ((), (0, 0), (0, -4), (6, -9, 0), (6, 10, 15))
        self.assertEqual([common_divisor(row) for row in rows], [0, 0, 4, 3, 1])
        self.assertEqual(reduced((6, -9, 0)), [2, -3, 0])
        self.assertEqual([reduced(()), reduced([0, 0]), reduced((-4,)), reduced((5, 3))], [[], [0, 0], [-1], [5, 3]])

    def test_sums(self):
        self.assertEqual(ratio(4, -6), (-2, 3))
        self.assertEqual(ratio(0, -6), (0, 1))
        rows = seeded(26)
        for _ in range(300):
            one, other = (Fraction(rows.randint(-9, 9), rows.randint(1, 9)) for _ in range(2))
            self.assertEqual(plus(rat(one), rat(other)), rat(one + other))
            self.assertEqual(times(rat(one), rat(other)), rat(one * other))
            self.assertIs(is_less(rat(one), rat(other)), one < other)
            self.assertEqual(by_value([rat(one), rat(other)]), [rat(least) for least in sorted([one, other])])
        self.assertEqual(by_value([(1, 2), (1, 3), (1, 2)]), [(1, 3), (1, 2), (1, 2)])
        self.assertEqual(by_value([]), [])
