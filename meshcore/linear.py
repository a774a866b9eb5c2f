"""Linear algebra with integers: determinants, rows that are at right angles to others, and
which of two alternatives holds for a list of rows."""

from math import lcm

from meshcore.exact import reduced


def determinant_of(rows):
    """The determinant of a square table of numbers."""
    if len(rows) == 1:
        return rows[0][0]
    total = 0
    factor = 1
    for k, row in enumerate(rows):
        rest = [other[1:] for other in rows[:k] + rows[k + 1:]]
        total += factor * row[0] * determinant_of(rest)
        factor = -factor
    return total


def combined(row, other, place):
    """A row times a number, less so much of another row that it has 0 at a place."""
    # the number is above 0 if the other row has one above 0 at the place
    return reduced([one * other[place] - two * row[place] for one, two in zip(row, other)])


def leading(row):
    """The place of the first number that is not 0, None if there is none."""
    for place, number in enumerate(row):
        if number != 0:
            return place
    return None


def solved(rows):
    """Rows with the same solutions, each at the place of a number where all others have 0."""
    found = {}
    for row in rows:
        rest = row
        for place in found:
            rest = combined(rest, found[place], place)
        lead = leading(rest)
        if lead is not None:
            for place in list(found):
                found[place] = combined(found[place], rest, lead)
            found[lead] = rest
    return found


def null_row(rows, many):
    """So many integers, not all 0, that have the product 0 with each row; None if there are none."""
    found = solved(rows)
    free = [place for place in range(many) if place not in found]
    if free == []:
        return None
    common = 1
    for place in found:
        common = lcm(common, found[place][place])
    null = [0] * many
    null[free[0]] = common
    for place in found:
        null[place] = -found[place][free[0]] * (common // found[place][place])
    return reduced(null)


def product_of(one, other):
    return sum([left * right for left, right in zip(one, other)])


def start_table(rows, many):
    """The equations for weights of the rows: each column has the sum 0, the weights the sum 1.

    Behind the weights' columns stands one for each equation, with what is missing in it. That
    of the last one is the right side, too. The last row is the opposite of the sum of all."""
    sums = [[row[at] for row in rows] for at in range(many)] + [[1] * len(rows)]
    table = []
    for at, row in enumerate(sums):
        unit = [0] * (many + 1)
        unit[at] = 1
        table.append(row + unit)
    return table + [[-sum(column) for column in zip(*table)]]


def entering(table, many):
    """The first weight that makes what is missing less as it grows, None if there is none."""
    for place in range(many):
        if table[-1][place] < 0:
            return place
    return None


def is_sooner(row, other, place):
    """Whether a weight that grows brings the number of a row to 0 before that of another row."""
    return row[-1] * other[place] < other[-1] * row[place]


def leaving(table, basis, place):
    """The first row whose number comes to 0, of several that of the least name."""
    best = None
    for at, name in enumerate(basis):
        row = table[at]
        if row[place] <= 0:
            continue
        if best is None or is_sooner(row, table[best], place):
            best = at
        elif not is_sooner(table[best], row, place) and name < basis[best]:
            best = at
    return best


def pivoted(table, at, place):
    """The table with a row solved for a place: all other rows have 0 there."""
    # each row counts up to a factor above 0
    return [row if k == at else combined(row, table[at], place) for k, row in enumerate(table)]


def weights_of(table, basis, many):
    common = 1
    for at, name in enumerate(basis):
        common = lcm(common, table[at][name])
    weights = [0] * many
    for at, name in enumerate(basis):
        if name < many:
            weights[name] = table[at][-1] * (common // table[at][name])
    return reduced(weights)


def alternative(rows, many):
    """Of rows of so many integers: (numbers, None), the numbers' product with each row being
    above 0, or (None, weights), not all 0 and none below 0, such that the rows times their
    weights have the sum 0. There is exactly one of the two (P. Gordan, 1873)."""
    # G. Dantzig's simplex method; by R. Bland's rule of the least name it comes to an end
    table = start_table(rows, many)
    basis = list(range(len(rows), len(rows) + many + 1))
    place = entering(table, len(rows))
    while place is not None:
        at = leaving(table, basis, place)
        table = pivoted(table, at, place)
        basis[at] = place
        place = entering(table, len(rows))
    if table[-1][-1] == 0:
        return (None, weights_of(table, basis, len(rows)))
    # The last row is a sum of equations that has nothing below 0 at a weight and something
    # below 0 at the right side. Its numbers at the equations tell how they were summed up.
    return (table[-1][len(rows):len(rows) + many], None)
