"""Sums modulo 2 of rows: a row is the ascending list of the places at which it has a 1."""


def summed(one, other):
    return sorted([at for at in one if at not in other] + [at for at in other if at not in one])


def rest_of(row, found):
    """What is left of a row as long as another row with the same last place is added to it.

    The other rows stand in a dict, each at its last place."""
    rest = row
    while len(rest) > 0 and rest[-1] in found:
        rest = summed(rest, found[rest[-1]])
    return rest


def rank_of(rows):
    """The rank of a table with these rows."""
    found = {}
    for row in rows:
        rest = rest_of(row, found)
        if len(rest) > 0:
            found[rest[-1]] = rest
    return len(found)
