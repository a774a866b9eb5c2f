"""Promise [45]: texts of meshes."""

import re
from fractions import Fraction

from meshcore.errors import BadPoints, BadText, Flat, NotText, NotTriangulation, TooFew, TooMany
from meshcore.texts import read_mesh, write_mesh
from meshcore.triangulations import triangulate
from tests.constraints import CheckedConstraints
from tests.helpers import LIMIT, STRANGE, deep, of, plain, seeded, some_mesh_points

POINTS = ((0, 0, 1), (1, 0, 2), (0, -3, 1))
TEXT = "0 0\n1/2 0\n0 -3\n-\n0 1 2\n"
SQUARE = plain((0, 0), (4, 0), (4, 4), (0, 4))
LINES = ("0 0", "4 0", "4 4", "0 4", "-", "0 1 2", "0 2 3")
INTEGER = r"(0|-?[1-9][0-9]{0,11})"
WORD = INTEGER + r"(/(?!1$|1 )[1-9][0-9]{0,11})?"


def text_of(lines):
    return "".join(line + "\n" for line in lines)


def is_word(word):
    """Whether a word is a coordinate, by a pattern and a fraction."""
    if not re.fullmatch(WORD, word) or not word.isascii():
        return False
    return str(Fraction(word)) == word


class Write(CheckedConstraints):

    def test_ordinary(self):
        self.assertEqual(write_mesh(POINTS, ((0, 1, 2),)), TEXT)
        self.assertEqual(write_mesh(SQUARE, ((0, 1, 2), (0, 2, 3))), text_of(LINES))

    def test_fractions(self):
        points = ((1, 2, 3), (-1, -2, 3), (3, 2, 6), (-7, 12, 4), (0, 5, 9), (5, 0, 7))
        rows = write_mesh(points, triangulate(points)).split("\n")
        self.assertEqual(rows[:7], ["1/3 2/3", "-1/3 -2/3", "1/2 1/3", "-7/4 3", "0 5/9", "5/7 0", "-"])

    def test_largest_numbers(self):
        points = ((LIMIT, -LIMIT, 1), (LIMIT, 1, LIMIT - 1), (-LIMIT, -1, LIMIT))
        found = write_mesh(points, ((0, 1, 2),))
        big = "1000000000000"
        told = [big + " -" + big, big + "/999999999999 1/999999999999", "-1 -1/" + big, "-", "0 1 2"]
        self.assertEqual(found, text_of(told))

    def test_indexes_of_two_digits(self):
        points = plain(*[(k, k * k) for k in range(12)])
        self.assertIn("\n9 10 11\n", write_mesh(points, tuple((k, k + 1, 11) for k in range(10))))

    def test_read_again(self):
        rows = seeded(151)
        for many, size, most in ((3, 5, 1), (6, 9, 4), (12, 9, 9), (20, 10 ** 11, 1), (9, 10 ** 5, 10 ** 5)):
            points = some_mesh_points(rows, many, size, most)
            triangles = triangulate(points)
            text = write_mesh(points, triangles)
            self.assertEqual(read_mesh(text), (points, triangles))
            told = [" ".join(str(Fraction(one, w)) for one in (x, y)) for x, y, w in points] + ["-"]
            self.assertEqual(text, text_of(told + [" ".join(map(str, row)) for row in triangles]))

    def test_wrong(self):
        self.bad_mesh_points(write_mesh, ())
        self.bad_mesh_points(write_mesh, None)
        for value in STRANGE + (((0, 1, 2),), ((0, 2, 3), (0, 1, 2)), [(0, 1, 2), (0, 2, 3)], deep(50)):
            with self.subTest(value=value):
                self.raised(NotTriangulation, write_mesh, SQUARE, value)


class Read(CheckedConstraints):

    def test_ordinary(self):
        self.assertEqual(read_mesh(TEXT), (POINTS, ((0, 1, 2),)))
        self.assertEqual(read_mesh(text_of(LINES)), (SQUARE, ((0, 1, 2), (0, 2, 3))))

    def test_fractions(self):
        text = text_of(("1/2 -1/3", "-5/6 7", "4 3/4", "-", "0 1 2"))
        self.assertEqual(read_mesh(text)[0], ((3, -2, 6), (-5, 42, 6), (16, 3, 4)))

    def test_no_string(self):
        for value in STRANGE + (deep(50), [TEXT], (TEXT,), {TEXT: TEXT}):
            if not isinstance(value, str):
                with self.subTest(value=value):
                    self.raised(NotText, read_mesh, value)

    def wrong_line(self, at, line):
        rows = LINES[:at] + (line,) + LINES[at + 1:]
        with self.subTest(rows=rows):
            self.raised(BadText, read_mesh, text_of(rows), line=at)
            # the same, whatever stands behind it
            self.raised(BadText, read_mesh, text_of(rows[:at + 1]), line=at)
            if rows[-1] != "":
                self.raised(BadText, read_mesh, text_of(rows)[:-1], line=at)
            self.raised(BadText, read_mesh, text_of(rows[:at + 1] + ("x",)), line=at)

    def test_wrong_points(self):
        wrong = ("", " ", "4", "4 ", " 4 0", "4 0 ", "4  0", "4 0 0", "4\t0", "4,0", "4 x", "x 0", "--1 0", "-0 0",
                 "0 -0", "+4 0", "04 0", "4 00", "-04 0", "4 -", "- 0", "-- 0", "4.0 0", "4 0\r", "1/1 0", "2/4 0",
                 "4/2 0",
                 "1/-2 0", "1/0 0", "0/1 0", "0/2 0", "-0/2 0", "1/ 0", "/2 0", "/ 0", "1/2/3 0", "1/02 0", "01/2 0",
                 "1 /2 0", "1/+2 0", "-/2 0", "1/-0 0", "1234567890123 0", "-1234567890123 0", "1/1234567890123 0",
                 "1234567890123/2 0", "0000000000001 0", "0 1000000000000", "1e3 0", "1_0 0", "\u0661 0", "\u00b2 0",
                 "4 0\u00a0", "4\u20030", "- -", "0x1 0", "4 None", "-6/4 1", "10/5 1")
        for line in wrong:
            for at in (0, 1, 3):
                self.wrong_line(at, line)

    def test_points_that_are_right(self):
        for word in ("7", "-7", "10", "-10", "3/2", "-3/2", "1/999999999999", "999999999999", "-999999999999",
                     "999999999999/10", "101/100", "-1/2"):
            upper, _, lower = word.partition("/")
            p = of(Fraction(int(upper), int(lower or "1")), 1)
            self.assertTrue(is_word(word))
            self.assertEqual(read_mesh(text_of(("0 0", word + " 1", "1 2", "-", "0 1 2")))[0][1], p)

    def test_words_like_a_pattern(self):
        rows = seeded(152)
        right = 0
        for _ in range(4000):
            word = "".join(rows.choice("0011234-/ ") for _ in range(rows.randint(1, 6)))
            told = is_word(word)
            right += told
            text = text_of(("-9 -9", word + " 7", "9 -8", "-", "0 1 2"))
            if told:
                self.assertEqual(read_mesh(text)[0][1], of(Fraction(word), 7))
            else:
                self.raised(BadText, read_mesh, text, line=1)
        self.assertGreater(right, 300)

    def test_wrong_triangles(self):
        wrong = ("", "-", "0 1", "0 1 2 3", "0 1 2 ", " 0 1 2", "0  1 2", "0 1 -2", "0 1 02", "00 1 2", "0 1 x",
                 "-0 1 2", "+0 1 2", "0 1 2/1", "0 1 1/2", "0\t1 2", "0 1 2\r", "0 1 1234567890123", "0 1 \u0662",
                 "0 1 \u00b2", "x")
        for line in wrong:
            for at in (5, 6):
                self.wrong_line(at, line)

    def test_lines_that_are_missing(self):
        for text, line in (("", 0), ("\n", 0), ("0 0", 0), ("0 0\n", 1), ("0 0\n4 0\n", 2), ("0 0\n4 0", 1),
                           ("0 0\n-", 1), ("-", 0), ("x", 0), (TEXT[:-1], 4), (TEXT[:-7], 3), (TEXT + "\n", 5),
                           (TEXT + "-\n", 5),
                           (TEXT + "0", 5), (TEXT + " ", 5), (TEXT + "-", 5), ("- \n", 0), (" -\n", 0),
                           ("0 0\n--\n", 1), ("0 0\n1 x\n", 1), ("0 0\n1 x\n5", 1), ("0 0\n1 x", 1), ("0 0\r\n", 0)):
            with self.subTest(text=text):
                self.raised(BadText, read_mesh, text, line=line)

    def test_then_the_points(self):
        tail = ("-", "0 1 2")
        self.raised(BadPoints, read_mesh, "-\n", index=None)
        self.raised(BadPoints, read_mesh, text_of(tail), index=None)
        self.raised(BadPoints, read_mesh, text_of(tuple(f"{k} {k * k}" for k in range(41)) + tail), index=None)
        self.raised(BadPoints, read_mesh, text_of(("0 0", "1 0", "0 0") + tail), index=2)
        self.raised(BadPoints, read_mesh, text_of(("0 0", "1 0", "1/999999999999 1/999999999998") + tail), index=2)
        self.raised(TooFew, read_mesh, text_of(("0 0", "1 0") + tail))
        self.raised(TooMany, read_mesh, text_of(tuple(f"{k} {k * k}" for k in range(21)) + tail), most=20)
        self.raised(Flat, read_mesh, text_of(("0 0", "1/2 0", "1 0") + tail))
        self.raised(BadText, read_mesh, text_of(("0 0", "0 0", "-", "0 1 x")), line=3)

    def test_then_the_triangles(self):
        for rows in ((), ("0 1 2",), ("0 1 2", "0 1 3"), ("0 2 3", "0 1 2"), ("0 1 2", "0 2 4"), ("0 2 1", "0 2 3"),
                     ("0 1 2", "0 2 3", "0 2 3"), ("0 0 1", "0 2 3"), ("0 1 2", "0 2 999999999999")):
            with self.subTest(rows=rows):
                self.raised(NotTriangulation, read_mesh, text_of(LINES[:5] + rows))
