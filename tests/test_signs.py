"""Promise [13]: signs of triples of labels, contradictions, points for signs."""

from itertools import combinations, permutations, product

from meshcore.errors import BadNumber, BadPoints, BadSigns, TooFew
from meshcore.points import ranked
from meshcore.signs import contradiction, realized, signs_of
from meshcore.turns import turn
from tests.helpers import LIMIT, STRANGE, Checked, deep, plain, seeded, some_points


def told_sign(many, signs, labels):
    """The sign of three labels in any order, by counting the pairs that are turned round."""
    triples = list(combinations(range(many), 3))
    turned = sum(one > two for one, two in combinations(labels, 2))
    return signs[triples.index(tuple(sorted(labels)))] * (-1) ** turned


def contradiction_by_words(many, signs):
    def at(*labels):
        return told_sign(many, signs, labels)
    for a, b, c, d in combinations(range(many), 4):
        if len({at(b, c, d), at(a, b, d), -at(a, c, d), -at(a, b, c)}) == 1:
            return (a, b, c, d)
    for five in combinations(range(many), 5):
        for x in five:
            p, q, r, t = [label for label in five if label != x]
            products = {at(x, p, q) * at(x, r, t), at(x, p, t) * at(x, q, r), -at(x, p, r) * at(x, q, t)}
            if len(products) == 1:
                return five
    return None


class Signs(Checked):

    def test_signs_of(self):
        self.assertEqual(signs_of(plain((0, 0), (1, 0), (0, 1))), (1,))
        self.assertEqual(signs_of(plain((0, 0), (1, 0), (2, 0), (0, -1))), (0, -1, -1, -1))
        rows = seeded(24)
        for many in (3, 4, 6, 40):
            points = some_points(rows, many, 4, 3)
            told = [turn(*three) for three in combinations(points, 3)]
            self.assertEqual(signs_of(points), tuple(told))

    def test_signs_of_wrong_points(self):
        self.bad_points(signs_of, (), ())
        self.raised(TooFew, signs_of, plain((0, 0), (1, 0)))
        self.raised(TooFew, signs_of, plain((0, 0)))
        self.raised(BadPoints, signs_of, plain((0, 0), (0, 0)), index=1)

    def test_contradiction(self):
        self.assertEqual(contradiction(4, (-1, 1, -1, 1)), (0, 1, 2, 3))
        self.assertEqual(contradiction(4, (1, -1, 1, -1)), (0, 1, 2, 3))
        self.assertIsNone(contradiction(4, (1, 1, 1, 1)))
        self.assertIsNone(contradiction(3, (1,)))
        self.assertIsNone(contradiction(3, (-1,)))

    def test_all_signs(self):
        kinds = {}
        for many, length in ((3, 1), (4, 4), (5, 10)):
            for signs in product((1, -1), repeat=length):
                told = contradiction_by_words(many, signs)
                self.assertEqual(contradiction(many, signs), told)
                points = realized(many, signs)
                kinds[told] = kinds.get(told, 0) + 1
                if told is not None:
                    self.assertIsNone(points)
                    continue
                self.assertEqual(len(points), many)
                self.assertIsInstance(points, tuple)
                self.assertEqual(len(ranked(points)), many)
                self.assertEqual(signs_of(points), signs)
        fours = list(combinations(range(5), 4))
        for labels in [None, (0, 1, 2, 3, 4)] + fours:
            self.assertIn(labels, kinds)
        self.assertEqual((kinds[None], kinds[0, 1, 2, 3, 4]), (2 + 14 + 264, 280))

    def test_signs_of_points_have_no_contradiction(self):
        rows = seeded(25)
        for _ in range(200):
            points = some_points(rows, rows.randint(3, 5), 9, 3)
            signs = signs_of(points)
            if 0 not in signs:
                self.assertIsNone(contradiction(len(points), signs))
                self.assertEqual(signs_of(realized(len(points), signs)), signs)

    def test_relabelled(self):
        points = plain((0, 0), (9, 0), (0, 9), (2, 3), (3, 1))
        for row in permutations(points):
            self.assertEqual(signs_of(realized(5, signs_of(row))), signs_of(row))

    def test_bad_number(self):
        for many in STRANGE + (2, 6, "3", (3,), [4], 3 * LIMIT, -3, deep(5000)):
            for call in (contradiction, realized):
                for signs in ((1,), None, (5, 5, 5, 5)):
                    self.raised(BadNumber, call, many, signs)

    def test_bad_signs(self):
        for call in (contradiction, realized):
            for value in STRANGE + ([1, 1, 1, 1], (1, 1, 1), (1, 1, 1, 1, 1), "1111", {0: 1}, deep(5000)):
                if value == (1, 2, 3, 4):
                    continue
                self.raised(BadSigns, call, 4, value, index=None)
            for value in (0, 2, -2, True, False, None, "1", (1,), [1], 10 ** 30, deep(5000)):
                for place in range(4):
                    row = (1, -1, 1, 1)[:place] + (value,) + (1, -1, 1, 1)[place + 1:]
                    self.raised(BadSigns, call, 4, row, index=place)
                self.raised(BadSigns, call, 4, (1, value, value, 1), index=1)
                self.raised(BadSigns, call, 3, (value,), index=0)
            self.raised(BadSigns, call, 5, (1,) * 9, index=None)
            self.raised(BadSigns, call, 5, (1,) * 9 + (0,), index=9)
            self.raised(BadSigns, call, 3, (1, 1, 1, 1), index=None)
