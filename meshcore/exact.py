"""Exact numbers: integers, signs, tuples of indexes, ratios."""

from math import gcd, lcm


def is_whole(value):
    """Whether a value is an integer; True and False are none here."""
    return isinstance(value, int) and not isinstance(value, bool)


def are_numbers(value, many):
    """Whether a value is a tuple of so many integers."""
    if not isinstance(value, tuple) or len(value) != many:
        return False
    for number in value:
        if not is_whole(number):
            return False
    return True


def sign(number):
    if number > 0:
        return 1
    if number < 0:
        return -1
    return 0


def is_ascending(value, many):
    """Whether a value is a strictly ascending tuple of indexes below many."""
    if not isinstance(value, tuple):
        return False
    least = 0
    for item in value:
        if not is_whole(item) or not least <= item < many:
            return False
        least = item + 1
    return True


def are_indexes(value, many):
    """Whether a value is a tuple of different indexes below many, in any order."""
    if not isinstance(value, tuple) or not are_numbers(value, len(value)):
        return False
    return is_ascending(tuple(sorted(value)), many)


def is_ratio(value):
    return are_numbers(value, 2) and value[1] > 0 and gcd(value[0], value[1]) == 1


def common_divisor(numbers):
    """The greatest common divisor of all numbers, 0 if all of them are 0."""
    found = 0
    for number in numbers:
        found = gcd(found, number)
    return found


def reduced(numbers):
    """The numbers without their common divisor, as a list."""
    common = common_divisor(numbers)
    if common < 2:
        return list(numbers)
    return [number // common for number in numbers]


def ratio(upper, lower):
    """The ratio upper to lower; lower is not 0."""
    common = gcd(upper, lower)
    if lower < 0:
        common = -common
    return (upper // common, lower // common)


def plus(one, other):
    return ratio(one[0] * other[1] + other[0] * one[1], one[1] * other[1])


def times(one, other):
    return ratio(one[0] * other[0], one[1] * other[1])


def is_less(one, other):
    return one[0] * other[1] < other[0] * one[1]


def by_value(ratios):
    """A list of ratios in ascending order."""
    common = 1
    for one in ratios:
        common = lcm(common, one[1])
    rows = sorted([(one[0] * (common // one[1]), one) for one in ratios])
    return [row[1] for row in rows]


def places_of(ratios):
    """A dict of the ratios, each with a number that is greater for greater ratios."""
    return {one: place for place, one in enumerate(by_value(ratios))}
