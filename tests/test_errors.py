"""meshcore/errors.py: all classes, their base class and their fields."""

from meshcore import errors
from tests.helpers import Checked

PLAIN = (
    "BadPoint", "Collinear", "BadPolygon", "NotLattice", "BadNumber", "TooFew", "BadLine", "NotGeneral",
    "BadPair", "BadEdge", "NotPointed", "NotPseudo", "BadIndexes", "NotCover", "BadFlip", "NotGeneric",
    "BadRadius", "BadBars", "BadChoice", "Flat", "NotTriangulation", "BadHeights", "BadBound",
    "NotCutting", "BadPlace", "NotFree", "NotText",
)
FIELDS = {
    "BadPoints": ("index",), "TooMany": ("most",), "BadSigns": ("index",), "BadLines": ("index",),
    "BadEdges": ("index",), "BadConfiguration": ("index",), "BadConstraints": ("first", "second"),
    "BadWorld": ("index",), "BadText": ("line",),
}


class Errors(Checked):

    def test_base(self):
        self.assertEqual(errors.MeshError.__bases__, (ValueError,))

    def test_plain_classes(self):
        for name in PLAIN:
            kind = getattr(errors, name)
            self.assertEqual(kind.__bases__, (errors.MeshError,))
            self.assertEqual(vars(kind()), {})

    def test_fields(self):
        for name, fields in FIELDS.items():
            kind = getattr(errors, name)
            self.assertEqual(kind.__bases__, (errors.MeshError,))
            told = {field: at for at, field in enumerate(fields, start=4)}
            self.assertEqual(vars(kind(*told.values())), told)
            self.assertEqual(vars(kind(**told)), told)
            self.assertIsInstance(str(kind(**told)), str)

    def test_nothing_else(self):
        names = [name for name, kind in vars(errors).items() if isinstance(kind, type)]
        self.assertEqual(sorted(names), sorted(PLAIN + tuple(FIELDS) + ("MeshError",)))
