"""Ways and barriers between places, and the free parts of a world."""

from itertools import combinations

from meshcore.boxes import blocks_of, check_ends, check_world, have_common
from meshcore.exact import are_numbers, sign
from meshcore.grids import free_places, free_rectangles, free_segments, reach
from meshcore.parts import part_number


def twice(block):
    return [None if limit is None else 2 * limit for limit in block]


def has_half(block, p, q):
    """Whether the pair (p / 2, q / 2) is in a block."""
    return have_common(twice(block), (p, q, p, q))


def counts(one, other, place):
    """Whether a side counts for a place; the ends of the side are told by twice their numbers."""
    p, q = one
    r, s = other
    u = 2 * place[0]
    v = 2 * place[1]
    if (q > v) == (s > v):
        return False
    # how far to the right of u the side has the height v, times the rise of the side
    return sign((p - u) * (s - q) + (r - p) * (v - q)) == sign(s - q)


def goes_between(sides, start, goal):
    """Whether an odd number of sides counts for just one of two places."""
    odd = [len([side for side in sides if counts(side[0], side[1], place)]) % 2 for place in (start, goal)]
    return odd[0] != odd[1]


def are_links(blocks, value):
    """Whether a value is links, each one's pair being in its block and in the next one's."""
    if not isinstance(value, tuple) or len(value) == 0:
        return False
    for item in value:
        if not are_numbers(item, 3) or not 0 <= item[0] < len(blocks):
            return False
    for k, (at, p, q) in enumerate(value):
        after = value[k + 1 - len(value)][0]
        if not has_half(blocks[at], p, q) or not has_half(blocks[after], p, q):
            return False
    return True


def is_barrier(blocks, start, goal, value):
    if not are_links(blocks, value):
        return False
    pairs = [(p, q) for _, p, q in value]
    return goes_between(list(zip(pairs, pairs[1:] + pairs[:1])), start, goal)


def twice_between(limits, others):
    """Twice a number that is greater than some limits and less than others, None being no limit."""
    low = max([limit for limit in limits if limit is not None], default=None)
    high = min([limit for limit in others if limit is not None], default=None)
    if low is None and high is None:
        return 0
    if low is None:
        return 2 * high - 1
    if high is None:
        return 2 * low + 1
    return low + high


def common_pair(one, other):
    """Twice a pair that two blocks have in common."""
    p = twice_between([one[0], other[0]], [one[2], other[2]])
    q = twice_between([one[1], other[1]], [one[3], other[3]])
    return (p, q)


def is_turning(one, other, start, goal):
    """Whether the sides from within a block to within another one count for just one of two places."""
    # inside of a block all ways from one pair to another are as good: a block has neither place in it
    rows = [common_pair(one, one), common_pair(one, other), common_pair(other, other)]
    return goes_between([(rows[0], rows[1]), (rows[1], rows[2])], start, goal)


def chain_to_root(before, k):
    found = [k]
    while before[found[-1]] is not None:
        found.append(before[found[-1]])
    return found


def ring_of(before, k, other):
    """The ring that two joined blocks close in a tree of blocks."""
    one = chain_to_root(before, k)
    two = chain_to_root(before, other)
    while len(one) > 1 and len(two) > 1 and one[-2] == two[-2]:
        one.pop()
        two.pop()
    return one + two[:-1][::-1]


def find_ring(blocks, start, goal):
    """A ring of blocks, each joined with the next one, that goes round just one of two places."""
    before = {}
    odd = {}
    for root in range(len(blocks)):
        todo = []
        if root not in before:
            before[root] = None
            odd[root] = False
            todo.append(root)
        while len(todo) > 0:
            k = todo.pop()
            for other, block in enumerate(blocks):
                if not have_common(blocks[k], block):
                    continue
                now = odd[k] != is_turning(blocks[k], block, start, goal)
                if other not in before:
                    before[other] = k
                    odd[other] = now
                    todo.append(other)
                elif odd[other] != now:
                    return ring_of(before, k, other)
    return None


def find_barrier(blocks, start, goal):
    ring = find_ring(blocks, start, goal)
    found = []
    for k, other in zip(ring, ring[1:] + ring[:1]):
        p, q = common_pair(blocks[k], blocks[other])
        found.append((k, p, q))
    return tuple(found)


def way_back(found, start, goal):
    """The way from start to goal, by the places before."""
    row = [goal]
    while row[-1] != start:
        row.append(found[row[-1]][1])
    return tuple(row[::-1])


def connection(world, start, goal):
    """A way from start to goal, or a barrier between them."""
    check_ends(world, start, goal)
    found = reach(world, start, goal)
    if goal in found:
        return ("way", way_back(found, start, goal))
    return ("barrier", find_barrier(blocks_of(world), start, goal))


def shows_barrier(world, start, goal, value):
    """Whether a value is a barrier between two places."""
    check_ends(world, start, goal)
    return is_barrier(blocks_of(world), start, goal, value)


def shortest(world, start, goal):
    """The least total length of all ways, None if there is none."""
    check_ends(world, start, goal)
    found = reach(world, start, goal)
    if goal not in found:
        return None
    return found[goal][0]


def region_count(world):
    """The number of connected parts of all free pairs."""
    check_world(world)
    numbers = {place: k for k, place in enumerate(free_places(world))}
    return part_number(len(numbers), [(numbers[one], numbers[other]) for one, other in free_segments(world)])


def free_cells(world):
    """The numbers of free points, segments and rectangles of the grid."""
    check_world(world)
    return (len(free_places(world)), len(free_segments(world)), len(free_rectangles(world)))


def inner_clusters(world):
    """The number of clusters of blocks of walls that are not joined with the outside."""
    check_world(world)
    blocks = blocks_of(world)
    pairs = list(combinations(range(len(blocks)), 2))
    joined = [(i, j) for i, j in pairs if have_common(blocks[i], blocks[j])]
    # the blocks behind the walls are one cluster
    return part_number(len(blocks), joined) - 1
