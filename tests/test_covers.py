"""Promises [25] and [26]: covers, placing, flips."""

from itertools import combinations

from meshcore.covers import all_covers, cover_flaw, flipped, flips, placing
from meshcore.errors import BadFlip, NotCover, NotGeneral, TooMany
from tests.helpers import LIMIT, STRANGE, deep, on_curve, plain, seeded, sign
from tests.solids import BODY, INSIDE, NESTED, SQUARE, TWISTED, Solid, all_circuits, all_simplices, content_of
from tests.solids import covers_by_words, dimension, hull_content, hull_faces, is_general_config, is_parted, signed
from tests.solids import some_config


def flaw_by_words(config, value):
    """For tuples of different simplices in ascending order."""
    for a, b in combinations(range(len(value)), 2):
        if not is_parted(config, value[a], value[b]):
            return ("overlap", a, b)
    if content_of(config, value) < hull_content(config):
        return ("gap",)
    return None


def placing_by_words(config):
    d = dimension(config)
    found = [tuple(range(d + 1))]
    for new in range(d + 1, len(config)):
        for face in hull_faces(config, range(new)):
            inner = min(k for k in range(new) if k not in face)
            if sign(signed(config, face + (inner,))) != sign(signed(config, face + (new,))):
                found.append(face + (new,))
    return tuple(sorted(found))


def is_cover(config, value):
    return list(value) == sorted(set(value)) and flaw_by_words(config, value) is None


def some_configs(rows):
    for d, many, size in ((2, 3, 9), (2, 4, 9), (2, 5, 9), (2, 6, 9), (3, 4, 5), (3, 5, 5), (3, 6, 5), (3, 7, 9)):
        for most in (1, 3):
            yield some_config(rows, d, many, size, most)


class Covers(Solid):

    def test_placing(self):
        self.assertEqual(placing(SQUARE), ((0, 1, 2), (0, 2, 3)))
        self.assertEqual(placing(INSIDE), ((0, 1, 2),))
        self.assertEqual(placing(INSIDE[::-1]), ((0, 1, 2), (0, 1, 3), (0, 2, 3)))
        self.assertEqual(placing(SQUARE[:3]), ((0, 1, 2),))
        self.assertEqual(placing(BODY), ((0, 1, 2, 3),))
        self.assertEqual(placing(on_curve(5)), ((0, 1, 2), (0, 2, 3), (0, 3, 4)))
        outside = BODY[:4] + ((-9, -8, 20, 1),)
        self.assertEqual(placing(outside), placing_by_words(outside))

    def test_placing_by_words(self):
        rows = seeded(92)
        for config in some_configs(rows):
            found = placing(config)
            self.assertEqual(found, placing_by_words(config))
            self.assertTrue(is_cover(config, found))
            self.assertIsNone(cover_flaw(config, found))
        for d in (2, 3):
            for size, most in ((20, 1), (LIMIT, LIMIT)):
                config = some_config(rows, d, 8, size, most)
                self.assertEqual(placing(config), placing_by_words(config))
                self.assertIsNone(cover_flaw(config, placing(config)))
                self.assertTrue(is_cover(config, placing(config)))

    def test_cover_flaw(self):
        self.assertIsNone(cover_flaw(SQUARE, ((0, 1, 2), (0, 2, 3))))
        self.assertIsNone(cover_flaw(SQUARE, ((0, 1, 3), (1, 2, 3))))
        self.assertEqual(cover_flaw(SQUARE, ((0, 1, 2), (1, 2, 3))), ("overlap", 0, 1))
        self.assertEqual(cover_flaw(SQUARE, tuple(all_simplices(SQUARE))), ("overlap", 0, 1))
        self.assertEqual(cover_flaw(SQUARE, ((0, 1, 2),)), ("gap",))
        self.assertEqual(cover_flaw(SQUARE, ()), ("gap",))
        self.assertIsNone(cover_flaw(NESTED, TWISTED))
        self.assertEqual(cover_flaw(NESTED, TWISTED[:-1]), ("gap",))
        self.assertIsNone(cover_flaw(NESTED, ((0, 1, 2),)))

    def test_a_point_inside_need_not_be_a_corner(self):
        self.assertIsNone(cover_flaw(INSIDE, ((0, 1, 2),)))
        self.assertIsNone(cover_flaw(INSIDE, ((0, 1, 3), (0, 2, 3), (1, 2, 3))))
        self.assertEqual(cover_flaw(INSIDE, ((0, 1, 2), (0, 1, 3))), ("overlap", 0, 1))
        self.assertEqual(cover_flaw(BODY, ((0, 1, 2, 3), (1, 2, 3, 4))), ("overlap", 0, 1))
        self.assertEqual(cover_flaw(BODY, ((0, 1, 2, 4), (0, 1, 3, 4), (0, 2, 3, 4))), ("gap",))

    def test_shape_flaws(self):
        one, two = (0, 1, 2), (0, 2, 3)
        for value in (None, True, 5, "", [], {}, [one, two], {one: two}):
            self.assertEqual(cover_flaw(SQUARE, value), ("shape", None))
        wrong = STRANGE + (
            (0, 1), (0, 1, 2, 3), (0, 2, 1), (0, 0, 1), (0, 1, 4), (-1, 0, 1), [0, 2, 3], "023", (False, 2, 3),
            (0, True, 2), (0, 2, "3"), (0, 2, None), deep(50), (one,), one, (0, 1, 2),
        )
        for value in wrong:
            for behind in ((), (5,), (two, one)):
                with self.subTest(value=value):
                    self.assertEqual(cover_flaw(SQUARE, (one, value) + behind), ("shape", 1))
        self.assertEqual(cover_flaw(SQUARE, (two, one)), ("shape", 1))
        self.assertEqual(cover_flaw(SQUARE, (one, two, two)), ("shape", 2))
        self.assertEqual(cover_flaw(SQUARE, (7, one)), ("shape", 0))
        # shape comes ahead of an overlap
        self.assertEqual(cover_flaw(SQUARE, (one, (1, 2, 3), 5)), ("shape", 2))
        self.assertEqual(cover_flaw(BODY, (one,)), ("shape", 0))
        self.assertEqual(cover_flaw(BODY, ((0, 1, 2, 3), (0, 1, 2, 5))), ("shape", 1))

    def test_flaws_by_words(self):
        rows = seeded(93)
        kinds = {}
        for config in list(some_configs(rows)) * 2:
            for cover in (placing(config), ()):
                for _ in range(12):
                    simplices = all_simplices(config)
                    more = rows.sample(simplices, rows.randint(0, min(2, len(simplices))))
                    value = tuple(sorted(set(list(cover) + more)))
                    told = flaw_by_words(config, value)
                    self.assertEqual(cover_flaw(config, value), told)
                    kinds[told and told[0]] = kinds.get(told and told[0], 0) + 1
        self.assertEqual(set(kinds), {None, "overlap", "gap"})

    def test_the_least_overlap(self):
        value = tuple(all_simplices(on_curve(5)))
        self.assertEqual(cover_flaw(on_curve(5), value), flaw_by_words(on_curve(5), value))
        value = ((0, 1, 2), (0, 2, 4), (1, 2, 3), (2, 3, 4))
        self.assertEqual(cover_flaw(on_curve(5), value), ("overlap", 0, 2))
        value = ((0, 1, 2), (0, 2, 3), (0, 2, 4), (2, 3, 4))
        self.assertEqual(cover_flaw(on_curve(5), value), ("overlap", 1, 2))

    def test_wrong_configurations(self):
        self.bad_config(placing)
        for value in (((0, 1, 2),), None):
            self.bad_config(cover_flaw, value)


class Flips(Solid):

    def test_flips(self):
        self.assertEqual(flips(SQUARE, ((0, 1, 2), (0, 2, 3))), ((0, 1, 2, 3),))
        self.assertEqual(flips(INSIDE, ((0, 1, 2),)), ((0, 1, 2, 3),))
        self.assertEqual(flips(INSIDE, placing(INSIDE[:2] + INSIDE[2:])), ((0, 1, 2, 3),))
        self.assertEqual(flips(SQUARE[:3], ((0, 1, 2),)), ())
        self.assertEqual(flips(BODY, placing(BODY)), ((0, 1, 2, 3, 4),))
        self.assertEqual(flips(on_curve(5), placing(on_curve(5))), ((0, 1, 2, 3), (0, 2, 3, 4)))

    def test_flipped(self):
        self.assertEqual(flipped(SQUARE, ((0, 1, 2), (0, 2, 3)), (0, 1, 2, 3)), ((0, 1, 3), (1, 2, 3)))
        self.assertEqual(flipped(SQUARE, ((0, 1, 3), (1, 2, 3)), (0, 1, 2, 3)), ((0, 1, 2), (0, 2, 3)))
        # one and three, both ways
        star = ((0, 1, 3), (0, 2, 3), (1, 2, 3))
        self.assertEqual(flipped(INSIDE, ((0, 1, 2),), (0, 1, 2, 3)), star)
        self.assertEqual(flipped(INSIDE, star, (0, 1, 2, 3)), ((0, 1, 2),))
        # one and four
        four = ((0, 1, 2, 4), (0, 1, 3, 4), (0, 2, 3, 4), (1, 2, 3, 4))
        self.assertEqual(flipped(BODY, ((0, 1, 2, 3),), (0, 1, 2, 3, 4)), four)
        self.assertEqual(flipped(BODY, four, (0, 1, 2, 3, 4)), ((0, 1, 2, 3),))
        # two and three
        crossed = ((0, 0, 0, 1), (6, 0, 0, 1), (0, 6, 0, 1), (1, 1, -3, 1), (1, 1, 3, 1))
        two, three = ((0, 1, 2, 3), (0, 1, 2, 4)), ((0, 1, 3, 4), (0, 2, 3, 4), (1, 2, 3, 4))
        self.assertEqual(flipped(crossed, two, (0, 1, 2, 3, 4)), three)
        self.assertEqual(flipped(crossed, three, (0, 1, 2, 3, 4)), two)

    def test_flips_by_words(self):
        rows = seeded(94)
        for config in list(some_configs(rows)) + [some_config(rows, 2, 8, 20, 1), some_config(rows, 3, 8, 20, 1)]:
            cover = placing(config)
            for _ in range(4):
                told = {}
                for circuit in all_circuits(config):
                    both = covers_by_words(tuple(config[k] for k in circuit))
                    self.assertEqual(len(both), 2)
                    both = [{tuple(circuit[k] for k in simplex) for simplex in one} for one in both]
                    for gone, come in (both, both[::-1]):
                        if gone <= set(cover):
                            told[circuit] = tuple(sorted(set(cover) - gone | come))
                self.assertEqual(flips(config, cover), tuple(sorted(told)))
                for circuit, after in told.items():
                    self.assertEqual(flipped(config, cover, circuit), after)
                    self.assertTrue(is_cover(config, after))
                    self.assertIn(circuit, flips(config, after))
                if told:
                    cover = told[rows.choice(sorted(told))]

    def test_all_covers(self):
        self.assertEqual(all_covers(SQUARE[:3]), (((0, 1, 2),),))
        self.assertEqual(all_covers(BODY[:4]), (((0, 1, 2, 3),),))
        self.assertEqual(all_covers(SQUARE), (((0, 1, 2), (0, 2, 3)), ((0, 1, 3), (1, 2, 3))))
        self.assertEqual(all_covers(INSIDE), (((0, 1, 2),), ((0, 1, 3), (0, 2, 3), (1, 2, 3))))
        self.assertEqual(len(all_covers(on_curve(6))), 14)
        self.assertIn(TWISTED, all_covers(NESTED))
        curve = tuple((k, k * k, k * k * k, 1) for k in range(7))
        self.assertEqual([len(all_covers(curve[:k])) for k in (4, 5, 6, 7)], [1, 2, 6, 25])

    def test_all_covers_by_words(self):
        rows = seeded(95)
        for config in some_configs(rows):
            found = all_covers(config)
            self.assertEqual(found, covers_by_words(config))
            more = len(config) - dimension(config)
            if more == 2:
                self.assertEqual(len(found), 2)
            if more == 3:
                for cover in found:
                    self.assertEqual(len(flips(config, cover)), 2)
        self.assertEqual(all_covers(NESTED), covers_by_words(NESTED))

    def test_too_many(self):
        rows = seeded(96)
        for d in (2, 3):
            for many in range(d + 5, 9):
                self.raised(TooMany, all_covers, some_config(rows, d, many, 20, 1), most=d + 4)
        self.raised(NotGeneral, all_covers, plain(*[(k, 0) for k in range(8)]))

    def test_wrong_configurations(self):
        self.bad_config(all_covers)
        for value in (((0, 1, 2),), None):
            self.bad_config(flips, value)
            self.bad_config(flipped, value, None)

    def test_not_cover(self):
        self.not_cover(flips)
        self.not_cover(flipped, (0, 1, 2, 3))
        self.not_cover(flipped, None)

    def test_bad_flip(self):
        cover = placing(on_curve(5))
        wrong = STRANGE + (
            (0, 1, 2, 4), (0, 1, 3, 4), (1, 2, 3, 4), (3, 2, 1, 0), [0, 1, 2, 3], (False, 1, 2, 3), (0, True, 2, 3),
            (0, 1, 2), (0, 1, 2, 3, 4), (0, 1, 2, 5), "0123", ((0, 1, 2, 3),), deep(50), {0: 1, 1: 2, 2: 3, 3: 4},
        )
        for value in wrong:
            if value == (1, 2, 3, 4):
                self.assertNotIn(value, flips(on_curve(5), cover))
            with self.subTest(value=value):
                self.raised(BadFlip, flipped, on_curve(5), cover, value)
        self.raised(BadFlip, flipped, SQUARE[:3], ((0, 1, 2),), (0, 1, 2))
        self.raised(BadFlip, flipped, BODY, placing(BODY), (0, 1, 2, 3))
        self.raised(NotCover, flipped, BODY, None, None)
        self.assertTrue(is_general_config(NESTED))
