"""Bars: from which squared radius to which one a part or a hole of growing disks lasts."""

from meshcore.errors import BadBars
from meshcore.exact import is_less, is_ratio, places_of
from meshcore.growing import births_of, check_growing, check_radius
from meshcore.parity import rest_of
from meshcore.parts import joined
from meshcore.triangulations import sides_with_rest


def part_bars(born, many):
    """The bars of parts, for the cells in the order of births."""
    labels = list(range(many))
    found = []
    for birth, cell in born:
        if len(cell) == 2 and labels[cell[0]] != labels[cell[1]]:
            labels = joined(labels, cell[0], cell[1])
            found.append(((0, 1), birth))
    return found + [((0, 1), None)]


def hole_bars(born):
    """The bars of holes, for the cells in the order of births, those without length included."""
    pairs = [row for row in born if len(row[1]) == 2]
    numbers = {row[1]: number for number, row in enumerate(pairs)}
    found = []
    closed = {}
    for birth, cell in born:
        if len(cell) == 3:
            rest = rest_of(sorted([numbers[side] for side, _ in sides_with_rest(cell)]), closed)
            # all triples together have no sum 0: there is always a last pair left
            closed[rest[-1]] = rest
            found.append((pairs[rest[-1]][0], birth))
    return found


def lasting(found):
    """Bars that end later than they begin, in ascending order."""
    kept = [bar for bar in found if bar[0] != bar[1]]
    places = places_of([one for bar in kept for one in bar])
    rows = sorted([(places[birth], places[death], birth, death) for birth, death in kept])
    return [(birth, death) for _, _, birth, death in rows]


def bars(points):
    """The bars of the parts and the bars of the holes."""
    check_growing(points)
    born = births_of(points)
    return (tuple(part_bars(born, len(points))), tuple(lasting(hole_bars(born))))


def is_bar(value):
    if not isinstance(value, tuple) or len(value) != 2:
        return False
    return is_ratio(value[0]) and (value[1] is None or is_ratio(value[1]))


def check_bars(value):
    if not isinstance(value, tuple):
        raise BadBars()
    for item in value:
        if not is_bar(item):
            raise BadBars()


def is_alive(bar, r):
    birth, death = bar
    return not is_less(r, birth) and (death is None or is_less(r, death))


def alive(bars, r):
    """How many bars have begun at r and have not ended."""
    check_bars(bars)
    check_radius(r)
    return len([bar for bar in bars if is_alive(bar, r)])
