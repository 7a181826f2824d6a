"""Points 54 to 56: sheets, and what two changes make of them."""

import unittest
from itertools import combinations, product

from tests.helpers import Numbers, as_key, slow_determinant, steps_to_all, twos
from wordsquares.sheets import (
    are_like, diagonal, is_diagonal, pair_count, rungs, rungs_everywhere, silent,
)

GREAT = 10 ** 30 - 1
SMALL = ((1, 1, 1), (2, 1, 1), (3, 1, 1), (4, 1, 1), (1, 1, 2), (2, 1, 2), (2, 2, 1), (1, 2, 2), (2, 2, 2), (1, 2, 3), (1, 3, 2), (1, 3, 1))


def small_sheets(width, m, n):
    """All sheets of m lists of n words of a width."""
    for items in product(range(2 ** width), repeat=m * n):
        yield [list(items[i * n:(i + 1) * n]) for i in range(m)]


def all_changes(width, size):
    """All changes whose items are words of a width."""
    return [rows for rows in small_sheets(width, size, size) if slow_determinant(rows) % 2]


def led(width, left, sheet, right):
    """The sheet to which two changes lead, by the words of point 54."""
    m, n = len(sheet), len(sheet[0])
    return [
        [sum(left[a][i] * sheet[a][b] * right[b][j] for a in range(m) for b in range(n)) % 2 ** width for j in range(n)]
        for i in range(m)
    ]


def minors_twos(sheet):
    """The rungs at all great widths, by the twos of all minors."""
    found, ahead = [], 0
    for size in range(1, min(len(sheet), len(sheet[0])) + 1):
        minors = [
            slow_determinant([[sheet[i][j] for j in columns] for i in lists])
            for lists in combinations(range(len(sheet)), size) for columns in combinations(range(len(sheet[0])), size)
        ]
        least = min([twos(minor) for minor in minors if minor], default=None)
        if least is None:
            break
        found.append(least - ahead)
        ahead = least
    return found


def slow_value(width, sheet, x, y):
    return sum(item * x[i] * y[j] for i, row in enumerate(sheet) for j, item in enumerate(row)) % 2 ** width


def lists_of_words(width, size):
    return list(product(range(2 ** width), repeat=size))


def slow_pair_counts(width, sheet):
    """How often each word is taken, by going through all pairs of lists of words."""
    found = [0] * 2 ** width
    for x in lists_of_words(width, len(sheet)):
        for y in lists_of_words(width, len(sheet[0])):
            found[slow_value(width, sheet, x, y)] += 1
    return found


def classes_of_sheets(width, m, n):
    """The dict of all sheets by words, as keys, and the number of the class in which changes hold each."""
    numbers = {}
    unit = [[[int(i == j) for j in range(size)] for i in range(size)] for size in (m, n)]
    steps = [(step, unit[1]) for step in steps_to_all(m)] + [(unit[0], step) for step in steps_to_all(n)]
    many = 0
    for sheet in small_sheets(width, m, n):
        if as_key(sheet) not in numbers:
            numbers[as_key(sheet)] = many
            left = [sheet]
            while left:
                some = left.pop()
                for one, other in steps:
                    reached = led(width, one, some, other)
                    if as_key(reached) not in numbers:
                        numbers[as_key(reached)] = many
                        left.append(reached)
            many += 1
    return numbers


def many_sheets(many, seed):
    """Sheets with all numbers of lists and items, some with many twos, some with fewer rungs than lists."""
    numbers = Numbers(seed)
    for at in range(many):
        m, n = at % 6 + 1, numbers.between(1, 6)
        most = numbers.one_of((1, 3, 40, GREAT))
        sheet = [[numbers.between(-most, most) << (numbers.below(5) if at % 3 else 0) for _ in range(n)] for _ in range(m)]
        if at % 4 == 1:
            sheet[numbers.below(m)] = [3 * item for item in sheet[0]]
        if at % 4 == 2:
            sheet = [[item << (7 * i) for item in row] for i, row in enumerate(sheet)]
        yield sheet


class Rungs(unittest.TestCase):

    def test_the_twos_of_all_minors(self):
        for sheet in many_sheets(200, 1101):
            expected = minors_twos(sheet) if len(sheet) < 5 else None
            found = rungs_everywhere(sheet)
            if expected is not None:
                self.assertEqual(found, expected, sheet)
            self.assertEqual(found, sorted(found))
            self.assertTrue(all(type(k) is int and k >= 0 for k in found))
            for width in (1, 2, 3, 8, 64):
                self.assertEqual(rungs(width, sheet), [k for k in found if k < width])
        for sheet in list(small_sheets(2, 2, 2)) + list(small_sheets(1, 3, 3)):
            self.assertEqual(rungs_everywhere(sheet), minors_twos(sheet))

    def test_they_are_as_many_as_lists_not_made_of_the_others(self):
        self.assertEqual(rungs_everywhere([[0] * 6] * 6), [])
        self.assertEqual(rungs_everywhere([[6, 9, 15], [4, 6, 10]]), [0])
        self.assertEqual(rungs_everywhere([[2, 4], [3, 6], [5, 10]]), [0])
        self.assertEqual(rungs_everywhere([[4, 0, 0], [0, 1, 0], [0, 0, 6]]), [0, 1, 2])
        self.assertEqual(rungs_everywhere([[2 ** 99, 0], [0, 2 ** 98]]), [98, 99])
        self.assertEqual(rungs_everywhere([[1, 2 ** 50], [2 ** 49, 2 ** 99]]), [0])
        self.assertEqual(rungs_everywhere([[1, 2 ** 49], [2 ** 49, 2 ** 99]]), [0, 98])

    def test_widths_cut_them(self):
        sheet = [[8, 0], [0, 1]]
        self.assertEqual([rungs(width, sheet) for width in (1, 2, 3, 4, 64)], [[0], [0], [0], [0, 3], [0, 3]])
        self.assertEqual(rungs(64, [[2 ** 63]]), [63])
        self.assertEqual(rungs(64, [[2 ** 64]]), [])
        self.assertEqual(rungs(5, [[0, 0]]), [])

    def test_what_is_the_same_by_the_width_has_the_same(self):
        numbers = Numbers(1102)
        for sheet in many_sheets(150, 1103):
            for width in (1, 3, 20, 64):
                other = [[item + numbers.between(-9, 9) * 2 ** width for item in row] for row in sheet]
                self.assertEqual(rungs(width, sheet), rungs(width, other))
                self.assertIs(are_like(width, sheet, other), True)

    def test_the_other_side_has_the_same(self):
        for sheet in many_sheets(150, 1104):
            turned = [list(column) for column in zip(*sheet)]
            self.assertEqual(rungs_everywhere(turned), rungs_everywhere(sheet))


class Like(unittest.TestCase):

    def test_just_where_two_changes_lead_by_going_through_all_of_both(self):
        for width, m, n in ((1, 1, 1), (2, 1, 1), (3, 1, 1), (1, 1, 2), (2, 1, 2), (1, 2, 1), (1, 2, 2), (1, 2, 3)):
            lefts, rights = all_changes(width, m), all_changes(width, n)
            sheets = list(small_sheets(width, m, n))
            for one in sheets:
                reached = {as_key(led(width, left, one, right)) for left in lefts for right in rights}
                for other in sheets:
                    self.assertIs(are_like(width, one, other), as_key(other) in reached, (width, one, other))

    def test_just_where_steps_lead(self):
        for width, m, n in SMALL + ((1, 3, 3), (3, 2, 2), (2, 2, 3)):
            numbers = classes_of_sheets(width, m, n)
            told = {}
            for key, number in numbers.items():
                told.setdefault(number, set()).add(tuple(rungs(width, [list(row) for row in key])))
            self.assertTrue(all(len(some) == 1 for some in told.values()))
            self.assertEqual(len({as_key(sorted(some)) for some in told.values()}), len(told))

    def test_each_is_like_exactly_one_with_powers_that_never_fall(self):
        for width, m, n in SMALL:
            numbers = classes_of_sheets(width, m, n)
            size = min(m, n)
            plain = {}
            for exponents in product(range(width + 1), repeat=size):
                if list(exponents) == sorted(exponents):
                    sheet = [[0] * n for _ in range(m)]
                    for i, k in enumerate(exponents):
                        sheet[i][i] = 2 ** k % 2 ** width
                    number = numbers[as_key(sheet)]
                    self.assertNotIn(number, plain)
                    plain[number] = [k for k in exponents if k < width]
            for key, number in numbers.items():
                self.assertEqual(rungs(width, [list(row) for row in key]), plain[number])

    def test_changes_of_both_sides_make_like_sheets(self):
        numbers = Numbers(1111)
        for sheet in many_sheets(150, 1112):
            left, right = numbers.change(len(sheet), 3), numbers.change(len(sheet[0]), 3)
            for width in (1, 5, 64):
                other = led(width, left, sheet, right)
                self.assertIs(are_like(width, sheet, other), True)
                self.assertEqual(rungs(width, sheet), rungs(width, other))

    def test_other_numbers_of_lists_or_items_are_not_like(self):
        for one, other in (([[0]], [[0, 0]]), ([[0]], [[0], [0]]), ([[1, 0]], [[1], [0]]), ([[1, 0], [0, 0]], [[1]])):
            self.assertIs(are_like(3, one, other), False)
            self.assertIs(are_like(3, other, one), False)


class Diagonal(unittest.TestCase):

    def assert_diagonal(self, width, sheet):
        found = diagonal(width, sheet)
        self.assertEqual((type(found), len(found)), (tuple, 2))
        left, right = found
        self.assertEqual(([len(row) for row in left], [len(row) for row in right]),
                         ([len(sheet)] * len(sheet), [len(sheet[0])] * len(sheet[0])))
        self.assertEqual(slow_determinant(left) % 2 * slow_determinant(right) % 2, 1)
        goal = [[0] * len(sheet[0]) for _ in sheet]
        for i, k in enumerate(rungs(width, sheet)):
            goal[i][i] = 2 ** k
        self.assertEqual(led(width, left, sheet, right), goal, (width, sheet))
        self.assertIs(is_diagonal(width, sheet, found), True)
        return left, right

    def test_changes_of_both_sides(self):
        for width, m, n in SMALL:
            for sheet in small_sheets(width, m, n):
                self.assert_diagonal(width, sheet)
        for at, sheet in enumerate(many_sheets(60, 1121)):
            for width in (1, 2, 4, 33, 64):
                if at % 6 < 4 and len(sheet[0]) < 5:
                    self.assert_diagonal(width, sheet)
                else:
                    self.assertIs(is_diagonal(width, sheet, diagonal(width, sheet)), True)

    def test_exactly_those_that_lead_there(self):
        for width, m, n in ((1, 1, 2), (2, 1, 2), (1, 2, 2), (3, 1, 1), (1, 2, 1)):
            lefts, rights = all_changes(width, m), all_changes(width, n)
            for sheet in small_sheets(width, m, n):
                goal = [[0] * n for _ in range(m)]
                for i, k in enumerate(rungs(width, sheet)):
                    goal[i][i] = 2 ** k
                for left in lefts:
                    for right in rights:
                        expected = led(width, left, sheet, right) == goal
                        self.assertIs(is_diagonal(width, sheet, (left, right)), expected)

    def test_items_need_not_be_words(self):
        numbers = Numbers(1122)
        for sheet in many_sheets(60, 1123):
            left, right = diagonal(9, sheet)
            far = tuple([[item + 512 * numbers.between(-GREAT, GREAT) for item in row] for row in side] for side in (left, right))
            self.assertIs(is_diagonal(9, sheet, far), True)

    def test_bent_ones_are_none(self):
        sheet = [[2, 4, 1], [6, 0, 0]]
        left, right = diagonal(3, sheet)
        unit = [[1, 0, 0], [0, 1, 0], [0, 0, 1]]
        self.assertIs(is_diagonal(3, sheet, (left, right)), True)
        for wrong in (
            [left, right], (left,), (left, right, right), (right, left), ((left, right),), None, True, 0, "", (), [], {},
            (left, None), (None, right), (left, tuple(right)), (tuple(left), right), (left, right[:2]), (left, unit),
            (unit, right), ([[1, 0], [0, 2]], right), (left, [[2, 0, 0], [0, 1, 0], [0, 0, 1]]), ([[True, 0], [0, 1]], right),
            {0: left, 1: right}, (left, [row[:2] for row in right]), ("", ""), ([], []),
        ):
            self.assertIs(is_diagonal(3, sheet, wrong), False, wrong)
        for i in range(2):
            for j in range(2):
                bent = [list(row) for row in left]
                bent[i][j] += 1
                expected = slow_determinant(bent) % 2 == 1 and led(3, bent, sheet, right) == [[1, 0, 0], [0, 2, 0]]
                self.assertIs(is_diagonal(3, sheet, (bent, right)), expected)


class Counts(unittest.TestCase):

    def test_by_going_through_all_pairs_of_lists(self):
        for width, m, n in SMALL:
            for sheet in small_sheets(width, m, n):
                found = [pair_count(width, sheet, word) for word in range(2 ** width)]
                self.assertEqual(found, slow_pair_counts(width, sheet), (width, sheet))
                self.assertTrue(all(type(many) is int for many in found))
        for sheet in ([[1, 2], [2, 5]], [[4, 6]], [[2], [4]]):
            self.assertEqual([pair_count(3, sheet, word) for word in range(8)], slow_pair_counts(3, sheet))

    def test_all_words_together_are_all_pairs(self):
        for sheet in many_sheets(120, 1131):
            for width in (1, 4, 8):
                found = [pair_count(width, sheet, word) for word in range(2 ** width)]
                self.assertEqual(sum(found), 2 ** (width * (len(sheet) + len(sheet[0]))))
                self.assertGreaterEqual(min(found), 0)

    def test_it_hangs_on_rungs_sizes_and_twos_alone(self):
        numbers = Numbers(1132)
        for sheet in many_sheets(120, 1133):
            for width in (3, 17, 64):
                other = led(width, numbers.change(len(sheet), 2), sheet, numbers.change(len(sheet[0]), 2))
                word = numbers.below(2 ** width) >> numbers.below(width)
                odd = 2 * numbers.below(10 ** 9) + 1
                self.assertEqual(pair_count(width, sheet, word), pair_count(width, other, word * odd % 2 ** width))

    def test_like_exactly_if_each_word_is_taken_equally_often(self):
        for width, m, n in ((1, 1, 1), (3, 1, 1), (2, 1, 2), (1, 2, 2), (1, 3, 2)):
            sheets = list(small_sheets(width, m, n))
            counts = [slow_pair_counts(width, sheet) for sheet in sheets]
            for one, low in zip(sheets, counts):
                for other, high in zip(sheets, counts):
                    self.assertIs(are_like(width, one, other), low == high)
        some = [[[item << k for item in row] for row in sheet] for sheet in many_sheets(12, 1134) for k in (0, 1, 5)]
        for one in some:
            for other in some:
                if (len(one), len(one[0])) == (len(other), len(other[0])):
                    for width in (1, 4, 7):
                        words = [0] + [2 ** j for j in range(width)]
                        equal = all(pair_count(width, one, word) == pair_count(width, other, word) for word in words)
                        self.assertIs(are_like(width, one, other), equal)

    def test_great_widths(self):
        self.assertEqual(pair_count(64, [[1]], 1), 2 ** 63)
        self.assertEqual(pair_count(64, [[1]], 2 ** 64 - 1), 2 ** 63)
        self.assertEqual(pair_count(64, [[1]], 0), 2 ** 64 + 64 * 2 ** 63)
        self.assertEqual(pair_count(64, [[2 ** 63]], 2 ** 63), 2 ** 126)
        self.assertEqual(pair_count(64, [[0] * 6] * 6, 0), 2 ** 768)
        self.assertEqual(pair_count(64, [[0] * 6] * 6, 1), 0)


class Silent(unittest.TestCase):

    def test_by_going_through_all_lists(self):
        for width, m, n in SMALL:
            for sheet in small_sheets(width, m, n):
                many = 0
                for x in lists_of_words(width, m):
                    # Values at all lists of words are 0 just where they are at those with a single 1.
                    made = [sum(x[i] * sheet[i][j] for i in range(m)) % 2 ** width for j in range(n)]
                    many += made == [0] * n
                self.assertEqual(silent(width, sheet), many, (width, sheet))

    def test_word_by_word(self):
        for width, m, n in ((1, 2, 2), (2, 1, 2), (2, 2, 1)):
            for sheet in small_sheets(width, m, n):
                lists = lists_of_words(width, n)
                many = sum(all(slow_value(width, sheet, x, y) == 0 for y in lists) for x in lists_of_words(width, m))
                self.assertEqual(silent(width, sheet), many)

    def test_by_the_rungs(self):
        for sheet in many_sheets(150, 1141):
            for width in (1, 3, 64):
                found = rungs(width, sheet)
                self.assertEqual(silent(width, sheet), 2 ** (sum(found) + width * (len(sheet) - len(found))))
        self.assertEqual(silent(64, [[0]] * 6), 2 ** 384)
        self.assertEqual(silent(64, [[0] * 6]), 2 ** 64)


if __name__ == "__main__":
    unittest.main()
