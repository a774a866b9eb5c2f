"""A box moved among walls: free places, ways."""

from meshcore.errors import BadPlace, BadWorld, NotFree
from meshcore.exact import are_numbers

LARGEST = 1000
MOST_WALLS = 8


def is_box(value):
    if not are_numbers(value, 4) or max([abs(number) for number in value]) > LARGEST:
        return False
    return value[0] < value[2] and value[1] < value[3]


def are_boxes(value):
    """Whether a value is a tuple of boxes, not too many."""
    if not isinstance(value, tuple) or len(value) > MOST_WALLS:
        return False
    for item in value:
        if not is_box(item):
            return False
    return True


def is_size(value, room):
    if not are_numbers(value, 2):
        return False
    x, y, a, b = room
    return 1 <= value[0] <= a - x and 1 <= value[1] <= b - y


def check_world(world):
    if not isinstance(world, tuple) or len(world) != 3:
        raise BadWorld(None)
    room, walls, size = world
    if not is_box(room):
        raise BadWorld(0)
    if not are_boxes(walls):
        raise BadWorld(1)
    if not is_size(size, room):
        raise BadWorld(2)


def check_place(place):
    if not are_numbers(place, 2):
        raise BadPlace()


def blocks_of(world):
    """The blocks as tuples (x, y, a, b): u lies between x and a, v between y and b, None being no limit."""
    (x, y, a, b), walls, (w, h) = world
    found = [(left - w, low - h, right, high) for left, low, right, high in walls]
    return found + [
        (None, None, x, None),
        (a - w, None, None, None),
        (None, None, None, y),
        (None, b - h, None, None),
    ]


def is_ahead(one, other):
    """Whether a limit is less than another one, if both are there."""
    return one is None or other is None or one < other


def have_common(one, other):
    """Whether two blocks have a pair in common.

    So for a block and the pairs of a place, a segment or a rectangle, with the limits in the same order."""
    if not is_ahead(one[0], other[2]) or not is_ahead(other[0], one[2]):
        return False
    return is_ahead(one[1], other[3]) and is_ahead(other[1], one[3])


def is_clear(blocks, u, v, a, b):
    """Whether all pairs from u to a and from v to b are in no block."""
    # a block that has a pair on the border of a rectangle has pairs inside, too, and so for segments
    return [block for block in blocks if have_common(block, (u, v, a, b))] == []


def is_free_place(blocks, place):
    u, v = place
    return is_clear(blocks, u, v, u, v)


def is_free_way(blocks, one, other):
    """Whether all pairs on the segment between two places with a common coordinate are free."""
    low = min(one, other)
    high = max(one, other)
    return is_clear(blocks, low[0], low[1], high[0], high[1])


def check_ends(world, start, goal):
    check_world(world)
    for place in (start, goal):
        check_place(place)
        if not is_free_place(blocks_of(world), place):
            raise NotFree()


def is_step(blocks, one, other):
    if one == other or (one[0] != other[0] and one[1] != other[1]):
        return False
    return is_free_way(blocks, one, other)


def is_way(blocks, start, goal, value):
    if not isinstance(value, tuple) or len(value) == 0:
        return False
    for item in value:
        if not are_numbers(item, 2):
            return False
    if value[0] != start or value[-1] != goal:
        return False
    for one, other in zip(value[:-1], value[1:]):
        if not is_step(blocks, one, other):
            return False
    return True


def is_free(world, place):
    """Whether a place is free."""
    check_world(world)
    check_place(place)
    return is_free_place(blocks_of(world), place)


def shows_way(world, start, goal, value):
    """Whether a value is a way from start to goal."""
    check_ends(world, start, goal)
    return is_way(blocks_of(world), start, goal, value)
