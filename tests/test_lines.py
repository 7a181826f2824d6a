"""Point 58: lines."""

import unittest

from tests.helpers import Numbers, small_forms
from wordsquares.errors import InvalidLine
from wordsquares.lines import line_of, of_line

GREAT = 10 ** 100 - 1
SIGNS = "0123456789:;,-+ \n\tax._/\"'"


def slow_line(width, form):
    """The line by the words of point 58."""
    lists = []
    for i, row in enumerate(form):
        lists.append(",".join(str(item) for item in row[i:]))
    return str(width) + ":" + ";".join(lists)


def slow_of_line(line):
    """The only width and form whose line, by the words of point 58, is a text of few figures, None if there is none."""
    try:
        head, tail = line.split(":")
        rows = [[int(text) for text in part.split(",")] for part in tail.split(";")]
        width = int(head)
    except ValueError:
        return None
    size = len(rows)
    if not 1 <= width <= 64 or size > 6 or [len(row) for row in rows] != list(range(size, 0, -1)):
        return None
    form = [[rows[min(i, j)][abs(i - j)] for j in range(size)] for i in range(size)]
    return (width, form) if slow_line(width, form) == line else None


def many_forms(many, seed):
    numbers = Numbers(seed)
    for at in range(many):
        size = at % 6 + 1
        most = numbers.one_of((0, 1, 9, 10, 99, 1000, 2 ** 64, 10 ** 30 - 1, 10 ** 64, GREAT))
        form = [[0] * size for _ in range(size)]
        for i in range(size):
            for j in range(i, size):
                form[i][j] = form[j][i] = numbers.between(-most, most)
        yield numbers.between(1, 64), form


class Lines(unittest.TestCase):

    def assert_none(self, line):
        with self.assertRaises(InvalidLine) as found:
            of_line(line)
        self.assertIs(found.exception.value, line)
        self.assertIs(type(found.exception), InvalidLine)

    def test_each_line_is_read_back(self):
        for width, form in many_forms(400, 1301):
            line = line_of(width, form)
            self.assertEqual(line, slow_line(width, form))
            self.assertEqual(of_line(line), (width, form))
            self.assertEqual((type(line), type(of_line(line))), (str, tuple))

    def test_all_widths_and_small_forms(self):
        for width in range(1, 65):
            self.assertEqual(of_line(line_of(width, [[-width]])), (width, [[-width]]))
        for size, low, high in ((1, -20, 20), (2, -2, 2)):
            for form in small_forms(size, low, high):
                self.assertEqual(of_line(line_of(7, form)), (7, form))

    def test_written_ones(self):
        self.assertEqual(line_of(3, [[1, 2], [2, 5]]), "3:1,2;5")
        self.assertEqual(line_of(64, [[-7]]), "64:-7")
        self.assertEqual(line_of(1, [[0]]), "1:0")
        self.assertEqual(of_line("5:0,0,-1;2,0;9"), (5, [[0, 0, -1], [0, 2, 0], [-1, 0, 9]]))
        self.assertEqual(of_line("10:1,2,3,4,5,6;7,8,9,10,11;12,13,14,15;16,17,18;19,20;21")[1][2], [3, 8, 12, 13, 14, 15])

    def test_items_of_many_figures(self):
        for figures in (1, 18, 19, 20, 63, 64, 65, 100, 127, 128, 129, 300):
            for item in (10 ** figures - 1, 10 ** figures, 10 ** figures + 1, -10 ** figures, 1 - 10 ** figures, 7 * 10 ** figures // 9):
                line = "9:" + str(item)
                self.assertEqual(line_of(9, [[item]]), line)
                self.assertEqual(of_line(line), (9, [[item]]))
        form = [[GREAT - 10 * i - 10 * j for j in range(6)] for i in range(6)]
        self.assertEqual(of_line(line_of(64, form)), (64, form))
        # More figures than Python reads or writes at once.
        item = (10 ** 64 + 1) ** 80
        self.assertEqual(of_line(line_of(2, [[-item]])), (2, [[-item]]))
        self.assertEqual(len(line_of(2, [[item]])), 2 + 64 * 80 + 1)

    def test_a_sign_put_in_left_out_exchanged_or_cut_off(self):
        lines = ["3:1,2;5", "64:-7", "1:0", "10:-10,0;100", "5:0,0,-1;2,0;9", "12:1,2,3;4,5;6"]
        right = {True: 0, False: 0}
        for line in lines:
            bent = set()
            for at in range(len(line) + 1):
                bent.add(line[:at])
                bent.add(line[at:])
                bent.add(line[:at] + line[at + 1:])
                for sign in SIGNS:
                    bent.add(line[:at] + sign + line[at:])
                    bent.add(line[:at] + sign + line[at + 1:])
            for some in sorted(bent):
                expected = slow_of_line(some)
                right[expected is not None] += 1
                if expected is None:
                    self.assert_none(some)
                else:
                    self.assertEqual(of_line(some), expected, some)
        self.assertGreater(min(right.values()), 300)

    def test_all_short_texts(self):
        signs = "0164:;,-"
        texts = [""]
        many = 0
        for _ in range(5):
            texts = [text + sign for text in texts for sign in signs]
            for text in texts:
                expected = slow_of_line(text)
                if expected is None:
                    self.assert_none(text)
                else:
                    self.assertEqual(of_line(text), expected)
                    many += 1
        self.assertGreater(many, 50)

    def test_other_signs_white_space_noughts_and_plus_make_none(self):
        for line in (
            "", ":", "3", "3:", ":1", "3:1,2", "3:1;2", "3:1,2;", "3:1,2;5;", ";3:1,2;5", "3:1,2;5,6", "3:,2;5", "3:1,;5", "3:1,2;;5",
            " 3:1,2;5", "3:1,2;5 ", "3: 1,2;5", "3:1, 2;5", "3:1,2; 5", "3:1,2;5\n", "\n3:1,2;5", "3:1,2;5\t", "3 :1,2;5",
            "03:1,2;5", "3:01,2;5", "3:1,2;05", "3:00,2;5", "3:-0,2;5", "3:-01,2;5", "+3:1,2;5", "3:+1,2;5", "3:--1,2;5", "3:1-,2;5",
            "3:-,2;5", "3:1,2;-", "0:1", "65:1", "64:", "100:1", "640:1", "064:1", "-3:1", "3.0:1", "3:1.0", "3:1e1", "3:0x1", "3:1_0",
            "3:1:2", "3::1", "3;1", "3,1", "3:a", "a:1", "3:1,2;5#", "width:1", "None", "True:1", "3:True", "3:None", "[3]:1", "(3:1)",
            "1:" + ";".join(",".join("0" * (7 - i)) for i in range(7)), "1:0,0,0,0,0,0,0", "9" * 5000 + ":1", "9" * 5000, "3:" + "0" * 5000,
            "3:-" + "0" * 5000, "3:" + "," * 700, "3:" + ";" * 700, "-" * 800, "3:1" + " " * 700,
        ):
            self.assert_none(line)

    def test_what_is_no_text(self):
        for value in (None, True, False, 3, 0, -1, (), [], {}, ("3:1",), ["3:1"], {"3:1": 1}, (3, [[1]]), [[1]], InvalidLine("3:1")):
            self.assert_none(value)


if __name__ == "__main__":
    unittest.main()
