"""The grid of the limits of all blocks: its free places, and least ways along it."""

from heapq import heappop, heappush

from meshcore.boxes import blocks_of, is_clear, is_free_place, is_free_way


def stops(world, at, more):
    """The numbers u, for at = 0, or v, for at = 1, at which blocks begin and end in the room, and more ones."""
    room, _, size = world
    least = room[at]
    most = room[at + 2] - size[at]
    limits = [block[k] for block in blocks_of(world) for k in (at, at + 2) if block[k] is not None]
    return sorted(set([number for number in limits + more if least <= number <= most]))


def grid_of(world, places):
    """The numbers u and the numbers v of the grid, with lines through further places."""
    return (stops(world, 0, [u for u, _ in places]), stops(world, 1, [v for _, v in places]))


def following(us, vs, place):
    """The next places of the grid to the right and above."""
    u, v = place
    right = [(other, v) for other in us if other > u]
    above = [(u, other) for other in vs if other > v]
    return right[:1] + above[:1]


def preceding(us, vs, place):
    """The next places of the grid to the left and below."""
    u, v = place
    left = [(other, v) for other in us if other < u]
    below = [(u, other) for other in vs if other < v]
    return left[-1:] + below[-1:]


def free_places(world):
    """The free places of the grid."""
    us, vs = grid_of(world, [])
    blocks = blocks_of(world)
    return [(u, v) for u in us for v in vs if is_free_place(blocks, (u, v))]


def free_segments(world):
    """The free segments between neighbouring places of the grid, as pairs of places."""
    us, vs = grid_of(world, [])
    blocks = blocks_of(world)
    pairs = [(place, other) for place in free_places(world) for other in following(us, vs, place)]
    return [(place, other) for place, other in pairs if is_free_way(blocks, place, other)]


def free_rectangles(world):
    """The least and greatest numbers of the free rectangles between neighbouring lines of the grid."""
    us, vs = grid_of(world, [])
    blocks = blocks_of(world)
    rows = [(u, v, a, b) for u, a in zip(us[:-1], us[1:]) for v, b in zip(vs[:-1], vs[1:])]
    return [(u, v, a, b) for u, v, a, b in rows if is_clear(blocks, u, v, a, b)]


def reach(world, start, goal):
    """A dict of the places that ways from start lead to: the least length and the place before.

    The places are those of the grid with lines through start and goal."""
    # E. Dijkstra; a least way can always be pushed onto the lines of the grid
    us, vs = grid_of(world, [start, goal])
    blocks = blocks_of(world)
    queue = [(0, start, start)]
    found = {}
    while len(queue) > 0:
        length, place, before = heappop(queue)
        if place in found:
            continue
        found[place] = (length, before)
        for other in following(us, vs, place) + preceding(us, vs, place):
            if other not in found and is_free_way(blocks, place, other):
                step = abs(other[0] - place[0]) + abs(other[1] - place[1])
                heappush(queue, (length + step, other, place))
    return found
