"""Texts of meshes: one line for each point, a line with a dash, one line for each triangle."""

from math import gcd, lcm

from meshcore.errors import BadText, NotText
from meshcore.exact import ratio
from meshcore.points import lowest
from meshcore.triangulations import check_mesh

DIGITS = "0123456789"
LONGEST = 12


def written(upper, lower):
    """The ratio upper to lower as a word."""
    one = ratio(upper, lower)
    if one[1] == 1:
        return str(one[0])
    return f"{one[0]}/{one[1]}"


def write_mesh(points, triangles):
    """The text of points and a triangulation."""
    check_mesh(points, triangles)
    rows = [f"{written(x, w)} {written(y, w)}\n" for x, y, w in points]
    rows.append("-\n")
    for i, j, k in triangles:
        rows.append(f"{i} {j} {k}\n")
    return "".join(rows)


def is_count(word):
    """Whether a word is a number of at most 12 digits, without leading zeros and without a sign."""
    if not 1 <= len(word) <= LONGEST:
        return False
    for letter in word:
        if letter not in DIGITS:
            return False
    return word == "0" or word[0] != "0"


def read_count(word):
    """The integer that is written in a word, None if it is not as told."""
    if not is_count(word):
        return None
    return int(word)


def read_integer(word):
    if word[:1] != "-":
        return read_count(word)
    number = read_count(word[1:])
    if number is None or number == 0:
        return None
    return -number


def read_ratio(word):
    """The ratio that is written in a word, None if it is not as told."""
    upper_word, stroke, lower_word = word.partition("/")
    upper = read_integer(upper_word)
    if stroke == "" or upper is None:
        return None if upper is None else (upper, 1)
    lower = read_count(lower_word)
    if lower is None or lower < 2 or gcd(upper, lower) != 1:
        return None
    return (upper, lower)


def read_words(line, many, read):
    """What is read from the words of a line, None if it has not so many words or one is not as told."""
    words = line.split(" ")
    if len(words) != many:
        return None
    found = [read(word) for word in words]
    if None in found:
        return None
    return found


def read_point(line):
    found = read_words(line, 2, read_ratio)
    if found is None:
        return None
    (x, v), (y, w) = found
    common = lcm(v, w)
    return lowest(x * (common // v), y * (common // w), common)


def read_triangle(line):
    found = read_words(line, 3, read_count)
    if found is None:
        return None
    return tuple(found)


def read_lines(lines, first, read):
    """What is read from lines; the first one has a given index in the text."""
    found = []
    for k, line in enumerate(lines):
        item = read(line)
        if item is None:
            raise BadText(first + k)
        found.append(item)
    return tuple(found)


def read_mesh(text):
    """The points and the triangulation of a text."""
    if not isinstance(text, str):
        raise NotText()
    rows = text.split("\n")
    lines = rows[:-1]
    dash = lines.index("-") if "-" in lines else len(lines)
    points = read_lines(lines[:dash], 0, read_point)
    triangles = read_lines(lines[dash + 1:], dash + 1, read_triangle)
    # behind the last line feed there is nothing, and ahead of it is a line with a dash
    if rows[-1] != "" or dash == len(lines):
        raise BadText(len(lines))
    check_mesh(points, triangles)
    return (points, triangles)
