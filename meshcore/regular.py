"""Shares and folds of covers, and what shows that a cover is regular or is not."""

from meshcore.circuits import dependency_of
from meshcore.configs import volume_of
from meshcore.covers import check_cover, faces_of
from meshcore.exact import are_numbers, plus
from meshcore.linear import alternative, product_of


def shares(config, cover):
    """For each point the sum of the contents of the simplices at it."""
    check_cover(config, cover)
    found = [(0, 1)] * len(config)
    for simplex in cover:
        size = volume_of(config, simplex)
        for k in simplex:
            found[k] = plus(found[k], size)
    return tuple(found)


def fold_at(config, circuit, up):
    """The circuit with its dependency or the opposite of it, positive at an index."""
    row = dependency_of(config, circuit)
    if row[circuit.index(up)] < 0:
        row = tuple([-one for one in row])
    return (circuit, row)


def is_around(fold, k):
    """Whether only this point is on its side in the dependency: it lies within the others."""
    circuit, row = fold
    return [at for at, one in zip(circuit, row) if one > 0] == [k]


def folds_of(config, cover):
    """What folds tells, as a list."""
    found = {}
    corners = {k: True for simplex in cover for k in simplex}
    faces = faces_of(cover)
    for face, rest in faces.items():
        if len(rest) == 2:
            found[fold_at(config, tuple(sorted(face + tuple(rest))), rest[0])] = True
    for k in range(len(config)):
        if k in corners:
            continue
        for simplex in cover:
            fold = fold_at(config, tuple(sorted(simplex + (k,))), k)
            if is_around(fold, k):
                found[fold] = True
    return sorted(list(found))


def folds(config, cover):
    """The folds of a cover: where two simplices meet, and where a point lies inside one."""
    check_cover(config, cover)
    return tuple(folds_of(config, cover))


def fold_rows(config, cover):
    """The rows of all folds, each with a number for every point."""
    rows = []
    for circuit, numbers in folds_of(config, cover):
        row = [0] * len(config)
        for k, one in zip(circuit, numbers):
            row[k] = one
        rows.append(row)
    return rows


def regularity(config, cover):
    """Heights of the points that raise them to a surface with this cover, or a conflict."""
    check_cover(config, cover)
    heights, weights = alternative(fold_rows(config, cover), len(config))
    if heights is not None:
        return ("heights", tuple(heights))
    return ("conflict", tuple(weights))


def are_heights(rows, numbers):
    for row in rows:
        if product_of(row, numbers) <= 0:
            return False
    return True


def are_in_conflict(rows, numbers):
    if max(numbers, default=0) <= 0 or min(numbers) < 0:
        return False
    for column in zip(*rows):
        if product_of(column, numbers) != 0:
            return False
    return True


def shows(config, rows, kind, numbers):
    """Whether a tuple of integers is heights or a conflict."""
    if kind == "heights" and len(numbers) == len(config):
        return are_heights(rows, numbers)
    if kind == "conflict" and len(numbers) == len(rows):
        return are_in_conflict(rows, numbers)
    return False


def shows_regularity(config, cover, value):
    """Whether a value is heights or a conflict of a cover."""
    check_cover(config, cover)
    if not isinstance(value, tuple) or len(value) != 2:
        return False
    if not isinstance(value[1], tuple) or not are_numbers(value[1], len(value[1])):
        return False
    return shows(config, fold_rows(config, cover), value[0], value[1])
