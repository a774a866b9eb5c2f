"""Configurations of points in the plane and in space, and their simplices."""

from itertools import combinations

from meshcore.errors import BadConfiguration, BadIndexes, NotGeneral
from meshcore.exact import are_indexes, is_ascending, ratio, sign
from meshcore.linear import determinant_of
from meshcore.points import is_lowest, is_within

MOST_POINTS = 8


def is_place(value):
    """Whether a value is a point or a space point that may be an argument."""
    return (is_lowest(value, 3) or is_lowest(value, 4)) and is_within(value)


def corner_count(config):
    """How many corners a simplex has: one more than the dimension, as many as a point has numbers."""
    return len(config[0])


def check_configuration(config):
    if not isinstance(config, tuple) or not 3 <= len(config) <= MOST_POINTS:
        raise BadConfiguration(None)
    seen = {}
    for k, item in enumerate(config):
        if not is_place(item) or len(item) != len(config[0]) or item in seen:
            raise BadConfiguration(k)
        seen[item] = True
    if len(config) < corner_count(config):
        raise BadConfiguration(None)


def ways_from_first(config, indexes):
    """The ways from the first point to the others in integers: times a number above 0 each."""
    first = config[indexes[0]]
    rows = []
    for k in indexes[1:]:
        there = config[k]
        rows.append([one * first[-1] - two * there[-1] for one, two in zip(there[:-1], first[:-1])])
    return rows


def turn_of(config, indexes):
    """What orientation tells, and 0 for points on a line or in a plane."""
    return sign(determinant_of(ways_from_first(config, indexes)))


def volume_of(config, indexes):
    """What content tells."""
    lower = 1
    for k in indexes[1:]:
        lower = lower * config[k][-1] * config[indexes[0]][-1]
    return ratio(abs(determinant_of(ways_from_first(config, indexes))), lower)


def check_config(config):
    """All errors of configurations in general position."""
    check_configuration(config)
    for simplex in combinations(range(len(config)), len(config[0])):
        if turn_of(config, simplex) == 0:
            raise NotGeneral()


def is_simplex(config, value):
    return is_ascending(value, len(config)) and len(value) == corner_count(config)


def check_corners(config, indexes):
    """The errors of a configuration and the corners of a simplex in any order."""
    check_config(config)
    if not are_indexes(indexes, len(config)) or len(indexes) != corner_count(config):
        raise BadIndexes()


def orientation(config, indexes):
    """The sign of the determinant of the ways from the first corner to the others."""
    check_corners(config, indexes)
    return turn_of(config, indexes)


def content(config, indexes):
    """The absolute value of this determinant."""
    check_corners(config, indexes)
    return volume_of(config, indexes)
