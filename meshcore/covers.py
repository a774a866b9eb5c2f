"""Covers: triangulations of configurations, and their flips at circuits."""

from itertools import combinations

from meshcore.circuits import dependency_of, is_circuit, parts_of
from meshcore.configs import check_config, corner_count, is_simplex, turn_of, volume_of
from meshcore.errors import BadFlip, NotCover, TooMany
from meshcore.exact import plus
from meshcore.walks import reached


def all_parts(config):
    """The ascending circuits of a configuration, each with its two parts."""
    circuits = list(combinations(range(len(config)), len(config[0]) + 1))
    return [(circuit, parts_of(circuit, dependency_of(config, circuit))) for circuit in circuits]


def lies_in(some, others):
    for k in some:
        if k not in others:
            return False
    return True


def are_overlapping(parts, one, other):
    """Whether two different simplices overlap."""
    for _, (first, second) in parts:
        if lies_in(first, one) and lies_in(second, other):
            return True
        if lies_in(first, other) and lies_in(second, one):
            return True
    return False


def total_of(config, simplices):
    """The sum of the contents of simplices."""
    total = (0, 1)
    for simplex in simplices:
        total = plus(total, volume_of(config, simplex))
    return total


def faces_of(simplices):
    """A dict of the faces, each with the list of the remaining corners of its simplices."""
    found = {}
    for simplex in simplices:
        for at, rest in enumerate(simplex):
            face = simplex[:at] + simplex[at + 1:]
            found[face] = found.get(face, []) + [rest]
    return found


def placed(config, simplices, new):
    """The simplices that placing adds for a point."""
    found = []
    faces = faces_of(simplices)
    for face, rest in faces.items():
        if len(rest) == 1 and turn_of(config, face + (rest[0],)) != turn_of(config, face + (new,)):
            # the new point comes behind all others
            found.append(face + (new,))
    return found


def placing_of(config):
    """What placing tells."""
    corners = corner_count(config)
    simplices = [tuple(range(corners))]
    for new in range(corners, len(config)):
        # a point inside does not lie on the other side of any face of just one simplex
        simplices = simplices + placed(config, simplices, new)
    return tuple(sorted(simplices))


def placing(config):
    """The cover that takes the points in order, each joined with what it sees of the hull so far."""
    check_config(config)
    return placing_of(config)


def shape_flaw(config, value):
    if not isinstance(value, tuple):
        return ("shape", None)
    for k, item in enumerate(value):
        if not is_simplex(config, item):
            return ("shape", k)
        if k > 0 and item <= value[k - 1]:
            return ("shape", k)
    return None


def overlap_flaw(parts, value):
    for a, b in combinations(range(len(value)), 2):
        if are_overlapping(parts, value[a], value[b]):
            return ("overlap", a, b)
    return None


def gap_flaw(config, value):
    if total_of(config, value) != total_of(config, placing_of(config)):
        return ("gap",)
    return None


def flaw_of(config, parts, value):
    """What cover_flaw tells, for a configuration with the parts of its circuits."""
    return shape_flaw(config, value) or overlap_flaw(parts, value) or gap_flaw(config, value)


def cover_flaw(config, value):
    """None for a cover, otherwise what is wrong first."""
    check_config(config)
    return flaw_of(config, all_parts(config), value)


def check_cover(config, cover):
    """The errors of a configuration and a cover; returns the parts of all circuits."""
    check_config(config)
    parts = all_parts(config)
    if flaw_of(config, parts, cover) is not None:
        raise NotCover()
    return parts


def leaving_out(circuit, part):
    """A cover of the points of a circuit: the simplices that leave out one index of a part."""
    return [tuple([k for k in circuit if k != gone]) for gone in part]


def flips_of(parts, cover):
    """The ascending circuits at which a cover has a flip, each with the simplices gone and come."""
    found = []
    for circuit, (first, second) in parts:
        for gone, come in ((first, second), (second, first)):
            if lies_in(leaving_out(circuit, gone), cover):
                found.append((circuit, leaving_out(circuit, gone), leaving_out(circuit, come)))
    return found


def after_flip(cover, gone, come):
    return tuple(sorted([simplex for simplex in cover if simplex not in gone] + come))


def all_flipped(parts, cover):
    return [after_flip(cover, gone, come) for _, gone, come in flips_of(parts, cover)]


def flips(config, cover):
    """The circuits at which a cover has a flip."""
    parts = check_cover(config, cover)
    return tuple([circuit for circuit, _, _ in flips_of(parts, cover)])


def flipped(config, cover, circuit):
    """The cover after the flip at a circuit."""
    parts = check_cover(config, cover)
    if not is_circuit(config, circuit):
        raise BadFlip()
    for one, gone, come in flips_of(parts, cover):
        if one == circuit:
            return after_flip(cover, gone, come)
    raise BadFlip()


def all_covers(config):
    """All covers of a configuration of few points."""
    check_config(config)
    most = corner_count(config) + 3
    if len(config) > most:
        raise TooMany(most)
    parts = all_parts(config)
    return reached(placing_of(config), lambda cover: all_flipped(parts, cover))
