"""Promise [1] for the whole program: whatever is passed, functions answer or raise an error of theirs."""

import importlib

from meshcore.errors import MeshError
from tests.helpers import BAD_POINTS, STRANGE, Checked, deep, plain, seeded
from tests.test_interface import INTERFACE
from tests.worlds import SPLIT

KITE = plain((0, 0), (4, 0), (5, 5), (0, 4))
THREE = plain((0, 0), (4, 1), (1, 3))
ONE = ((0, 1, 2), (0, 2, 3))
LINES = (((0, 1), (0, 1)), ((1, 1), (0, 1)), ((-1, 1), (2, 1)))
STAR = plain((0, 0), (6, 0), (1, 5), (2, 2))
PSEUDO = ((0, 1), (0, 2), (0, 3), (1, 2), (1, 3))
FIVE = ((0, 1), (0, 2), (1, 2), (1, 3), (2, 3))
BARRIER = ((0, 8, -1), (3, 17, -1), (2, 17, 13), (4, 8, 13))

# values that are right, by the names of the parameters; some have others in single functions
RIGHT = {
    "a": (0, 0, 1), "b": (4, 0, 1), "c": (0, 4, 1), "d": (3, 3, 1), "p": (1, 1, 1), "q": (2, 1, 1),
    "x": 3, "y": 4, "w": 2,
    "points": KITE, "triangles": ONE, "one": ONE, "other": ONE, "edge": (0, 2), "heights": (1, 2, 3, 4),
    "polygon": KITE, "value": ((0, 2),), "many": 4, "signs": (1, 1, 1, 1), "line": LINES[1], "lines": LINES, "k": 1,
    "red": KITE[:3], "blue": plain((7, 1)), "edges": PSEUDO, "config": KITE, "indexes": (0, 1, 2),
    "circuit": (0, 1, 2, 3), "cover": ONE, "r": (9, 2), "bars": (((0, 1), (5, 2)), ((0, 1), None)), "some": (0, 2),
    "constraints": ((0, 2),), "most": 5, "bound": (2, 1), "world": SPLIT, "place": (1, 1), "start": (0, 0),
    "goal": (8, 6), "text": "0 0\n1/2 0\n0 -3\n-\n0 1 2\n",
}
OTHERS = {
    "shows_in_hull": {"value": ("in", (0, 1), ((1, 2), (1, 2)))}, "polygon_flaw": {"value": KITE},
    "triangulation_flaw": {"value": ONE}, "shows_common": {"value": (((0, 2), (1, 3)), (20, 20, 9))},
    "tverberg": {"points": plain((0, 0), (9, 1), (3, 7), (5, 5), (2, 2), (7, 3), (1, 8))},
    "partner": {"points": STAR, "edge": (0, 3)}, "opening": {"points": STAR, "edge": (0, 1)},
    "stress": {"points": STAR, "edges": FIVE},
    "shows_stress": {"points": STAR, "edges": FIVE, "value": (1, 2, 3, 4, 5)},
    "cover_flaw": {"value": ONE}, "shows_regularity": {"value": ("heights", (1, 2, 3, 4))},
    "shows_holding": {"value": ("center", (1, 1, 1))},
    # with a piece from 0 to 2 the mesh is never refined: its sides have small angles
    "refined": {"constraints": ((1, 3),)},
    "shows_way": {"value": ((0, 0), (0, 6), (8, 6))}, "shows_barrier": {"goal": (8, 0), "value": BARRIER},
}
for name in ("crossing_edges", "unpointed", "is_pointed", "is_pseudo", "completed", "pseudo_triangles", "all_pseudo",
             "laman_flaw"):
    OTHERS[name] = {"points": STAR}
for name in ("births", "complex_at", "part_count", "hole_count", "ranks_at", "bars", "spanning_tree",
             "nested_graphs"):
    OTHERS[name] = {"points": THREE}
DEEP = deep(100)


def parameters(row):
    inner = row.partition("(")[2][:-1].replace("*, ", "").replace("=1", "")
    return inner.split(", ")


def spoiled(rows, value):
    """A value with one wrong item somewhere inside, or with one item too many or too few."""
    kind = rows.randint(0, 6)
    if not isinstance(value, tuple) or not value or kind == 0:
        return rows.choice(STRANGE + BAD_POINTS + (DEEP,))
    k = rows.randint(0, len(value) - 1)
    if kind == 1:
        return value[:k] + value[k + 1:]
    if kind == 2:
        return value[:k] + (value[k],) + value[k:]
    if kind == 3:
        return list(value)
    return value[:k] + (spoiled(rows, value[k]),) + value[k + 1:]


class AnyValue(Checked):

    def answers(self, call, rows, named):
        before = repr((rows, named))
        try:
            found = call(*rows, **named)
        except MeshError as error:
            self.assertIn(MeshError, error.__class__.__bases__)
        else:
            self.assertEqual(repr(call(*rows, **named)), repr(found))
        self.assertEqual(repr((rows, named)), before)

    def functions(self):
        for file, rows in INTERFACE.items():
            module = importlib.import_module("meshcore." + file)
            for row in rows:
                name = row.partition("(")[0]
                values = [OTHERS.get(name, {}).get(one, RIGHT[one]) for one in parameters(row)]
                yield getattr(module, name), parameters(row), values

    def passed(self, call, names, values):
        """The last argument of point is passed by its name only."""
        if names[-1] == "w":
            return call, values[:-1], {"w": values[-1]}
        return call, values, {}

    def test_right_values(self):
        for call, names, values in self.functions():
            with self.subTest(call=call):
                call, rows, named = self.passed(call, names, values)
                call(*rows, **named)

    def test_one_wrong_value(self):
        for call, names, values in self.functions():
            for k in range(len(values)):
                for wrong in STRANGE + BAD_POINTS + (DEEP,):
                    with self.subTest(call=call, k=k, wrong=wrong):
                        self.answers(*self.passed(call, names, values[:k] + [wrong] + values[k + 1:]))

    def test_spoiled_values(self):
        rows = seeded(161)
        for call, names, values in self.functions():
            for _ in range(60):
                mixed = [spoiled(rows, value) if rows.randint(0, 1) else value for value in values]
                with self.subTest(call=call, mixed=mixed):
                    self.answers(*self.passed(call, names, mixed))

    def test_judges_answer_for_every_value(self):
        rows = seeded(162)
        for call, names, values in self.functions():
            if names[-1] != "value" or call.__name__ in ("ears", "tree_of"):
                continue
            for wrong in STRANGE + BAD_POINTS + (DEEP,) + tuple(spoiled(rows, values[-1]) for _ in range(200)):
                with self.subTest(call=call, wrong=wrong):
                    found = call(*values[:-1], wrong)
                    if not call.__name__.endswith("_flaw"):
                        self.assertIs(found.__class__, bool)
