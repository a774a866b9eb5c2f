"""Promises [27] and [28]: shares, folds, regular covers."""

from meshcore.covers import all_covers, flips, placing
from meshcore.regular import folds, regularity, shares, shows_regularity
from tests.helpers import LIMIT, STRANGE, deep, frac, rat, seeded
from tests.solids import BODY, INSIDE, NESTED, SQUARE, TWISTED, Solid, dimension, folds_by_words, hull_content
from tests.solids import shares_by_words, some_config, spot

# Two configurations of space points, each with its only cover that is not regular.
TALL = (
    ((6, 0, 4, 1), (1, -3, -3, 1), (0, 1, -6, 1), (0, 1, -3, 1), (-3, 1, -3, 1), (-6, -2, -2, 1), (2, -3, 6, 1)),
    ((0, 1, 2, 6), (0, 2, 3, 6), (0, 3, 4, 5), (0, 3, 5, 6), (0, 4, 5, 6), (1, 2, 3, 4), (1, 2, 3, 6), (1, 2, 4, 5),
     (1, 3, 4, 5), (1, 3, 5, 6)),
)
WIDE = (
    ((1, 1, 6, 1), (1, 2, -2, 1), (5, 3, -5, 1), (-1, -2, -1, 1), (-5, 2, -2, 1), (-2, 1, 0, 1), (-1, -6, 5, 1)),
    ((0, 1, 2, 4), (0, 1, 2, 6), (0, 1, 3, 5), (0, 1, 3, 6), (0, 1, 4, 5), (0, 3, 4, 5), (0, 3, 4, 6), (1, 2, 3, 5),
     (1, 2, 3, 6), (1, 2, 4, 5), (2, 3, 4, 5)),
)
STAR = ((0, 1, 3), (0, 2, 3), (1, 2, 3))
ONE = ((0, 1, 2), (0, 2, 3))


def some_covers(rows):
    """Configurations with some of their covers."""
    for d, many, size in ((2, 3, 9), (2, 4, 9), (2, 5, 9), (2, 6, 9), (3, 4, 5), (3, 5, 5), (3, 6, 5), (3, 7, 9)):
        config = some_config(rows, d, many, size, 2)
        for cover in all_covers(config)[::3]:
            yield config, cover


class Shares(Solid):

    def test_shares(self):
        self.assertEqual(shares(SQUARE, ONE), ((12, 1), (6, 1), (12, 1), (6, 1)))
        self.assertEqual(shares(INSIDE, ((0, 1, 2),)), ((36, 1), (36, 1), (36, 1), (0, 1)))
        self.assertEqual(shares(INSIDE, STAR), ((18, 1), (30, 1), (24, 1), (36, 1)))
        self.assertEqual(shares(BODY, placing(BODY)), ((64, 1),) * 4 + ((0, 1),))
        halves = ((0, 0, 1), (1, 0, 2), (0, 1, 3))
        self.assertEqual(shares(halves, ((0, 1, 2),)), ((1, 6),) * 3)

    def test_shares_by_words(self):
        rows = seeded(97)
        for config, cover in some_covers(rows):
            found = shares(config, cover)
            self.assertEqual(found, shares_by_words(config, cover))
            self.assertEqual(rat(sum(frac(one) for one in found)), rat((dimension(config) + 1) * hull_content(config)))
            for side in range(dimension(config)):
                told = [sum(frac(one) * spot(p)[side] for one, p in zip(row, config))
                        for row in (found, shares(config, placing(config)))]
                self.assertEqual(told[0], told[1])
        for d in (2, 3):
            config = some_config(rows, d, 8, LIMIT, LIMIT)
            self.assertEqual(shares(config, placing(config)), shares_by_words(config, placing(config)))

    def test_wrong_arguments(self):
        self.bad_config(shares, ((0, 1, 2),))
        self.bad_config(shares, None)
        self.not_cover(shares)


class Folds(Solid):

    def test_folds(self):
        self.assertEqual(folds(SQUARE, ONE), (((0, 1, 2, 3), (-1, 1, -1, 1)),))
        self.assertEqual(folds(SQUARE, ((0, 1, 3), (1, 2, 3))), (((0, 1, 2, 3), (1, -1, 1, -1)),))
        self.assertEqual(folds(SQUARE[:3], ((0, 1, 2),)), ())
        # three inner edges have the same fold, and so has the point that is no corner, turned round
        self.assertEqual(folds(INSIDE, STAR), (((0, 1, 2, 3), (3, 1, 2, -6)),))
        self.assertEqual(folds(INSIDE, ((0, 1, 2),)), (((0, 1, 2, 3), (-3, -1, -2, 6)),))
        self.assertEqual(folds(BODY, placing(BODY)), (((0, 1, 2, 3, 4), (-1, -1, -1, -1, 4)),))
        self.assertEqual(len(folds(NESTED, TWISTED)), 9)
        self.assertEqual([circuit for circuit, _ in folds(NESTED, ((0, 1, 2),))],
                         [(0, 1, 2, 3), (0, 1, 2, 4), (0, 1, 2, 5)])

    def test_folds_by_words(self):
        rows = seeded(98)
        for config, cover in some_covers(rows):
            self.assertEqual(folds(config, cover), folds_by_words(config, cover))
        for d in (2, 3):
            for size, most in ((20, 1), (LIMIT, LIMIT)):
                config = some_config(rows, d, 8, size, most)
                self.assertEqual(folds(config, placing(config)), folds_by_words(config, placing(config)))

    def test_wrong_arguments(self):
        self.bad_config(folds, ((0, 1, 2),))
        self.bad_config(folds, None)
        self.not_cover(folds)


class Regularity(Solid):

    def holds(self, config, cover, value):
        """The heights or the conflict, held against the words of the document."""
        self.assertIsInstance(value, tuple)
        kind, numbers = value
        self.assertIsInstance(numbers, tuple)
        self.assertTrue(all(one.__class__ is int for one in numbers))
        rows = folds_by_words(config, cover)
        if kind == "heights":
            self.assertEqual(len(numbers), len(config))
            for circuit, row in rows:
                self.assertGreater(sum(one * numbers[k] for k, one in zip(circuit, row)), 0)
        else:
            self.assertEqual(kind, "conflict")
            self.assertEqual(len(numbers), len(rows))
            self.assertTrue(min(numbers) >= 0 and max(numbers) > 0)
            for k in range(len(config)):
                total = 0
                for (circuit, row), one in zip(rows, numbers):
                    if k in circuit:
                        total += one * row[circuit.index(k)]
                self.assertEqual(total, 0)
        self.assertIs(shows_regularity(config, cover, value), True)

    def test_regularity(self):
        for config, cover in (
            (SQUARE, ONE), (INSIDE, STAR), (INSIDE, ((0, 1, 2),)), (SQUARE[:3], ((0, 1, 2),)), (BODY, placing(BODY)),
            (BODY[:4], ((0, 1, 2, 3),)),
        ):
            value = regularity(config, cover)
            self.assertEqual(value[0], "heights")
            self.holds(config, cover, value)

    def test_a_cover_that_is_not_regular(self):
        value = regularity(NESTED, TWISTED)
        self.assertEqual(value[0], "conflict")
        self.holds(NESTED, TWISTED, value)
        conflicts = [cover for cover in all_covers(NESTED) if regularity(NESTED, cover)[0] == "conflict"]
        self.assertEqual(len(conflicts), 2)

    def test_regular_covers_have_the_least_sum(self):
        rows = seeded(99)
        for config in (NESTED, some_config(rows, 2, 5), some_config(rows, 2, 6), some_config(rows, 3, 6), INSIDE):
            covers = all_covers(config)
            table = {cover: shares(config, cover) for cover in covers}
            for cover in covers:
                value = regularity(config, cover)
                self.holds(config, cover, value)
                if value[0] == "conflict":
                    continue
                self.assertGreaterEqual(len(flips(config, cover)), len(config) - dimension(config) - 1)
                sums = {other: sum(h * frac(one) for h, one in zip(value[1], table[other])) for other in covers}
                self.assertEqual([other for other in covers if sums[other] <= sums[cover]], [cover])

    def test_few_points_have_regular_covers_only(self):
        # as do all configurations of at most d + 3 points (C. Lee)
        rows = seeded(100)
        for config, cover in some_covers(rows):
            value = regularity(config, cover)
            self.holds(config, cover, value)
            if len(config) <= dimension(config) + 3:
                self.assertEqual(value[0], "heights")

    def test_greatest_configurations(self):
        rows = seeded(101)
        for d in (2, 3):
            for size, most in ((20, 1), (LIMIT, LIMIT)):
                config = some_config(rows, d, 8, size, most)
                cover = placing(config)
                self.assertEqual(regularity(config, cover)[0], "heights")
                self.holds(config, cover, regularity(config, cover))

    def test_more_twisted_covers(self):
        # both triangles moved a bit, and points further outside and inside
        for moved in (
            ((0, 0, 1), (400, 0, 1), (0, 401, 1), (100, 101, 1), (201, 100, 1), (100, 202, 1)),
            ((0, 0, 1), (40, 0, 9), (0, 40, 9), (10, 10, 9), (20, 10, 9), (10, 20, 9)),
        ):
            value = regularity(moved, TWISTED)
            self.assertEqual(value[0], "conflict")
            self.holds(moved, TWISTED, value)
        inner = NESTED + ((53, 50, 40),)
        cover = tuple(sorted(TWISTED[:-1] + ((3, 4, 6), (3, 5, 6), (4, 5, 6))))
        value = regularity(inner, cover)
        self.assertEqual(value[0], "conflict")
        self.holds(inner, cover, value)

    def test_covers_of_space_that_are_not_regular(self):
        for config, cover in (TALL, WIDE):
            value = regularity(config, cover)
            self.assertEqual(value[0], "conflict")
            self.holds(config, cover, value)
            kinds = [regularity(config, other)[0] for other in all_covers(config)]
            self.assertEqual(kinds.count("conflict"), 1)

    def test_shows_regularity(self):
        self.assertIs(shows_regularity(SQUARE, ONE, ("heights", (0, 1, 0, 0))), True)
        self.assertIs(shows_regularity(SQUARE, ONE, ("heights", (-5, 0, 0, -4))), True)
        self.assertIs(shows_regularity(SQUARE, ONE, ("heights", (1, 1, 1, 1))), False)
        self.assertIs(shows_regularity(SQUARE, ONE, ("heights", (1, 1, 0, 0))), False)
        self.assertIs(shows_regularity(SQUARE, ONE, ("heights", (1, 0, 0, 0))), False)
        self.assertIs(shows_regularity(SQUARE, ONE, ("conflict", (1,))), False)
        self.assertIs(shows_regularity(SQUARE, ONE, ("conflict", (0,))), False)
        self.assertIs(shows_regularity(SQUARE, ONE, ("conflict", (0, 1, 0, 0))), False)
        one = SQUARE[:3]
        self.assertIs(shows_regularity(one, ONE[:1], ("heights", (0, 0, 0))), True)
        self.assertIs(shows_regularity(one, ONE[:1], ("heights", (-7, 5, 10 ** 40))), True)
        self.assertIs(shows_regularity(one, ONE[:1], ("heights", (0, 0))), False)
        self.assertIs(shows_regularity(one, ONE[:1], ("conflict", ())), False)
        self.assertIs(shows_regularity(one, ONE[:1], ("conflict", (1, 1, 1))), False)

    def test_shows_conflicts(self):
        good = regularity(NESTED, TWISTED)[1]
        self.assertIs(shows_regularity(NESTED, TWISTED, ("conflict", tuple(3 * one for one in good))), True)
        for numbers in (tuple(-one for one in good), (0,) * 9, good[:8], good + (0,), good[:6]):
            self.assertIs(shows_regularity(NESTED, TWISTED, ("conflict", numbers)), False)
        for k in range(9):
            for other in (good[k] + 1, good[k] - 1, good[k] + 7):
                numbers = good[:k] + (other,) + good[k + 1:]
                self.assertIs(shows_regularity(NESTED, TWISTED, ("conflict", numbers)), False)
        # the sums are 0, but there are numbers below 0
        rows = folds(NESTED, TWISTED)
        self.assertEqual(len(rows), len(good))
        for h in ((0,) * 6, (1, 2, 3, 4, 5, 6), good[:6]):
            self.assertIs(shows_regularity(NESTED, TWISTED, ("heights", h)), False)

    def test_shows_regularity_wrong_values(self):
        good = (0, 1, 0, 0)
        wrong = STRANGE + (
            ("heights",), ("heights", good, good), ["heights", good], ("heights", list(good)), ("height", good),
            (good, "heights"), ("heights", good[:3]), ("heights", good + (0,)), ("heights", (0, True, 0, 0)),
            ("heights", (0, 1, 0, None)), ("heights", ("0", 1, 0, 0)), ("heights", (0, (1,), 0, 0)), ("heights", None),
            ("heights", "0100"), (None, good), (True, good), (deep(50), good), ("heights", deep(50)), deep(50),
            ({}, good), ([], good), (("heights",), good), {"heights": good}, ("conflict", None), ("conflict", ()),
            ("conflict", (True,)), ("conflict", good), ("heights", {0: 1}), ("heights", ((0, 1, 0, 0),)), "heights",
        )
        for value in wrong:
            with self.subTest(value=value):
                self.assertIs(shows_regularity(SQUARE, ONE, value), False)

    def test_wrong_arguments(self):
        for value in (((0, 1, 2),), None):
            self.bad_config(regularity, value)
            self.bad_config(shows_regularity, value, None)
        self.not_cover(regularity)
        self.not_cover(shows_regularity, ("heights", (0, 1, 0, 0)))
