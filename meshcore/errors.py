"""The errors of meshcore: direct subclasses of MeshError, with their fields as attributes."""


class MeshError(ValueError):
    """The base class of all errors."""


class BadPoint(MeshError):
    """A value is not a point."""


class BadPoints(MeshError):
    """A value is not a point list; index is None if it is no tuple of 1 to 40 items."""

    def __init__(self, index):
        super().__init__(f"index {index}")
        self.index = index


class Collinear(MeshError):
    """Three points that should span a circle lie on a line."""


class BadPolygon(MeshError):
    """A value is not a polygon."""


class NotLattice(MeshError):
    """A corner has a coordinate that is not an integer."""


class TooMany(MeshError):
    """There are more than the most that are allowed."""

    def __init__(self, most):
        super().__init__(f"most {most}")
        self.most = most


class BadNumber(MeshError):
    """A number is not an integer of the range that is asked for."""


class BadSigns(MeshError):
    """A value is not a tuple of signs; index is None if its length is wrong."""

    def __init__(self, index):
        super().__init__(f"index {index}")
        self.index = index


class TooFew(MeshError):
    """There are fewer points than are needed."""


class BadLine(MeshError):
    """A value is not a line."""


class BadLines(MeshError):
    """A value is not a line list; index is None if it is no tuple of 1 to 20 items."""

    def __init__(self, index):
        super().__init__(f"index {index}")
        self.index = index


class NotGeneral(MeshError):
    """The points are not in general position."""


class BadPair(MeshError):
    """Two point lists do not go together."""


class BadEdges(MeshError):
    """A value is not an edge set; index is None if it is no tuple."""

    def __init__(self, index):
        super().__init__(f"index {index}")
        self.index = index


class BadEdge(MeshError):
    """A value is not an edge of the kind that is asked for."""


class NotPointed(MeshError):
    """An edge set has a crossing or is not pointed."""


class NotPseudo(MeshError):
    """An edge set is not a pseudo-triangulation."""


class BadConfiguration(MeshError):
    """A value is not a configuration; index is None if the whole is wrong."""

    def __init__(self, index):
        super().__init__(f"index {index}")
        self.index = index


class BadIndexes(MeshError):
    """A value is not a tuple of indexes of the kind that is asked for."""


class NotCover(MeshError):
    """A value is not a cover."""


class BadFlip(MeshError):
    """A cover has no flip at a value."""


class NotGeneric(MeshError):
    """The points lie on a circle in a way that is not allowed."""


class BadRadius(MeshError):
    """A value is not a squared radius."""


class BadBars(MeshError):
    """A value is not a tuple of bars."""


class BadChoice(MeshError):
    """A value is not a choice of points."""


class Flat(MeshError):
    """All points lie on a line."""


class NotTriangulation(MeshError):
    """A value is not a triangulation."""


class BadHeights(MeshError):
    """A value is not a tuple of heights, one for each point."""


class BadConstraints(MeshError):
    """Two constraints meet, or a point lies on the first one (second is None)."""

    def __init__(self, first, second):
        super().__init__(f"first {first}, second {second}")
        self.first = first
        self.second = second


class BadBound(MeshError):
    """A value is not a bound."""


class NotCutting(MeshError):
    """A value is not a cutting."""


class BadWorld(MeshError):
    """A value is not a world; index is None if it is no tuple of 3 items."""

    def __init__(self, index):
        super().__init__(f"index {index}")
        self.index = index


class BadPlace(MeshError):
    """A value is not a place."""


class NotFree(MeshError):
    """A place is not free."""


class NotText(MeshError):
    """A value is not a string."""


class BadText(MeshError):
    """A text has a wrong line; line is its index."""

    def __init__(self, line):
        super().__init__(f"line {line}")
        self.line = line
