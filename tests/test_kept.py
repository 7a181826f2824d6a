"""Points 50 to 53: how many changes keep a form."""

import unittest
from collections import Counter
from fractions import Fraction
from itertools import product
from operator import mul

from tests.helpers import (
    Numbers, as_key, classes_by_changes, is_odd_scale, kinds_at, led_by, pieces_up_to, rows_of, slow_changed,
    slow_determinant, slow_pieces_of, slow_table, small_forms, small_tables, unknowns_in,
)
from wordsquares.errors import TooMany
from wordsquares.kept import (
    how_many_alike, how_many_changes, how_many_keep, how_many_tables, is_keeping, keeping, kept_from, settled_width, shares,
)
from wordsquares.leading import all_leading, is_leading
from wordsquares.plain import class_at, how_many_classes

GREAT = 10 ** 30 - 1
# All widths and sizes with at most 64 lists of words, and some more with few tables.
GONE_THROUGH = ((1, 1), (2, 1), (3, 1), (4, 1), (5, 1), (6, 1), (1, 2), (2, 2), (3, 2), (1, 3), (2, 3), (1, 4), (1, 5), (1, 6))
FEW_TABLES = GONE_THROUGH + ((7, 1), (9, 1), (4, 2), (3, 3))


def all_changes(width, size):
    """All changes at a width, in order."""
    for items in product(range(2 ** width), repeat=size * size):
        rows = [list(items[i * size:(i + 1) * size]) for i in range(size)]
        if slow_determinant(rows) % 2:
            yield rows


def rows_of_key(key):
    return [list(row) for row in key]


def slow_share(pieces, k):
    """The share of a number as a fraction, by the words of point 53."""
    kinds = kinds_at(pieces, k)
    d = sum(1 if kind % 2 else 2 for kind in kinds)
    bound = is_odd_scale(pieces, k - 1) or is_odd_scale(pieces, k + 1)
    if d == 0:
        return Fraction(1, 2) if bound else Fraction(1)
    twisted = kinds.count(2)
    if not is_odd_scale(pieces, k):
        r, sign = (d + 1, 0) if bound else (d, 1 if twisted % 2 == 0 else -1)
    elif bound:
        r, sign = max(odd for odd in (1, 3, 5) if odd <= d), 0
    else:
        o = (kinds.count(1) + kinds.count(5) - kinds.count(3) - kinds.count(7) + 4 * twisted) % 8
        if o in (0, 4):
            r, sign = d - 2, 1 if o == 0 else -1
        elif o in (2, 6):
            r, sign = d - 1, 0
        else:
            r, sign = d - 1, 1 if o in (1, 7) else -1
    if r == 0 and sign == 1:
        return Fraction(1)
    share = Fraction(1, 2)
    t = (r + 1) // 2 if r % 2 else r // 2
    for i in range(1, t):
        share /= 1 - Fraction(1, 4 ** i)
    if r % 2 == 0:
        share /= 1 - sign * Fraction(1, 2 ** t)
    return share


def slow_kept_from(pieces, n):
    """The settled width and the number there, by the words of point 53."""
    scales = [k for k, kind in pieces for _ in range(1 if kind % 2 else 2)]
    w = max(scales) + 3
    differences = sum(abs(scales[i] - scales[j]) for i in range(n) for j in range(i))
    e = Fraction((n + 1) * sum(scales) - differences, 2)
    e += sum(1 for k in scales if not is_odd_scale(pieces, k))
    e -= sum(1 for k in range(max(scales) + 1) if is_odd_scale(pieces, k) and is_odd_scale(pieces, k + 1))
    total = Fraction(1)
    for k in range(min(scales) - 1, max(scales) + 2):
        total *= slow_share(pieces, k)
    number = Fraction(2) ** int((w + 1) * n * (n - 1) // 2 + e) / total
    assert e.denominator == number.denominator == 1
    return w, int(number)


def frames(width, form):
    """How many changes keep a form at a width from 2 on, counted column by column by the bits that count."""
    n, half = len(form), 2 ** (width - 1)
    goal = slow_table(width, form)
    columns = {}
    for words in product(range(half), repeat=n):
        made = [sum(item * word for item, word in zip(row, words)) for row in form]
        value = sum(item * word for item, word in zip(made, words)) % 2 ** width
        columns.setdefault(value, []).append((words, made))

    def going_on(at, left, basis):
        total = 0
        for words, made in left[0]:
            bits = sum((word & 1) << i for i, word in enumerate(words))
            for base in basis:
                bits = min(bits, bits ^ base)
            if bits and at == n - 1:
                total += 1
            elif bits:
                rest = [
                    [there for there in some if sum(map(mul, made, there[0])) % half == goal[at][at + 1 + i]]
                    for i, some in enumerate(left[1:])
                ]
                total += going_on(at + 1, rest, basis + [bits]) if all(rest) else 0
        return total

    # The highest bit of a word adds nothing to the table.
    return going_on(0, [columns.get(goal[at][at], []) for at in range(n)], []) * 2 ** (n * n)


def many_forms(many, seed, scales):
    numbers = Numbers(seed)
    for at in range(many):
        size = at % 6 + 1
        if at % 3:
            yield slow_changed(rows_of(numbers.pieces(size, scales), size), numbers.change(size, 2))
        else:
            yield numbers.form(size, numbers.one_of((1, 7, 2 ** 30)))


class AllOfThem(unittest.TestCase):

    def test_changes_and_tables_are_counted(self):
        for width, size in ((1, 1), (2, 1), (3, 1), (4, 1), (1, 2), (2, 2), (1, 3)):
            self.assertEqual(how_many_changes(width, size), len(list(all_changes(width, size))))
        for width, size in FEW_TABLES:
            self.assertEqual(how_many_tables(width, size), len(classes_by_changes(width, size)))

    def test_by_the_words_of_point_50(self):
        for width in range(1, 65):
            for n in range(1, 7):
                many = 2 ** ((width - 1) * n * n)
                for i in range(n):
                    many *= 2 ** n - 2 ** i
                self.assertEqual(how_many_changes(width, n), many)
                self.assertEqual(how_many_tables(width, n), 2 ** (width * n + (width - 1) * n * (n - 1) // 2))


class Small(unittest.TestCase):

    def test_by_going_through_all_changes(self):
        for width, size in ((1, 1), (2, 1), (3, 1), (4, 1), (1, 2), (2, 2), (1, 3)):
            changes = list(all_changes(width, size))
            for table in small_tables(width, size):
                kept = [change for change in changes if led_by(width, table, change) == table]
                self.assertEqual(how_many_keep(width, table), len(kept), (width, table))
                self.assertEqual(keeping(width, table), kept)
                self.assertEqual(how_many_alike(width, table), len({as_key(led_by(width, table, change)) for change in changes}))

    def test_the_tables_that_changes_lead_to(self):
        for width, size in FEW_TABLES:
            classes = classes_by_changes(width, size)
            sizes = Counter(classes.values())
            for key, number in list(classes.items())[::1 + len(classes) // 60]:
                table = rows_of_key(key)
                try:
                    many = how_many_alike(width, table)
                except TooMany as error:
                    settled = settled_width(table)
                    self.assertEqual(error.value, 2 ** (width * size))
                    self.assertTrue(error.value > 64 and (settled is None or width < settled))
                else:
                    self.assertEqual(many, sizes[number], (width, table))
                    self.assertEqual(many * how_many_keep(width, table), how_many_changes(width, size))

    def test_both_numbers_multiplied_are_all_changes(self):
        many = 0
        for form in many_forms(240, 1001, 12):
            for width in (1, 2, 3, 6, 15, 64):
                try:
                    kept = how_many_keep(width, form)
                except TooMany:
                    continue
                self.assertEqual(kept * how_many_alike(width, form), how_many_changes(width, len(form)))
                many += 1
        self.assertGreater(many, 400)

    def test_one_form_of_each_class_adds_up_to_all_tables(self):
        for width, size in ((1, 1), (2, 1), (6, 1), (1, 2), (2, 2), (3, 2), (1, 3), (2, 3), (1, 4), (1, 5), (1, 6)):
            many = how_many_classes(width, size)
            total = sum(how_many_alike(width, rows_of(class_at(width, size, at), size)) for at in range(many))
            self.assertEqual(total, how_many_tables(width, size))

    def test_alike_forms_have_the_same_numbers(self):
        numbers = Numbers(1002)
        for form in many_forms(200, 1003, 9):
            other = slow_changed(form, numbers.change(len(form), 2))
            self.assertEqual(kept_from(form), kept_from(other))
            # The shares may be unlike, but not what they are multiplied with one another.
            self.assertEqual(len(shares(form)), len(shares(other)))
            if settled_width(form):
                self.assertEqual(how_many_keep(64, form), how_many_keep(64, other))


class Keeping(unittest.TestCase):

    def test_all_that_lead_from_the_form_to_itself(self):
        for width, size in ((1, 1), (2, 1), (3, 1), (1, 2), (2, 2), (3, 2)):
            for table in list(small_tables(width, size))[::1 if width * size < 6 else 3]:
                self.assertEqual(keeping(width, table), all_leading(width, table, table))

    def test_up_to_64_lists_of_words(self):
        told = 0
        for width, size in GONE_THROUGH:
            tables = list(classes_by_changes(width, size))
            for key in tables[::1 + len(tables) // 24]:
                table = rows_of_key(key)
                many = how_many_keep(width, table)
                try:
                    found = keeping(width, table)
                except TooMany as error:
                    self.assertEqual(error.value, many)
                    self.assertGreater(many, 2000)
                    continue
                self.assertLessEqual(many, 2000)
                self.assertEqual(len(found), many)
                self.assertEqual(found, sorted(found))
                self.assertEqual(len({as_key(change) for change in found}), many)
                self.assertTrue(all(is_keeping(width, table, change) for change in found[::1 + many // 50]))
                self.assertTrue(all(0 <= item < 2 ** width for change in found for row in change for item in row))
                told += 1
        self.assertGreater(told, 100)

    def test_the_most_that_are_told(self):
        four = rows_of([(0, 1)], 4)
        self.assertEqual(len(keeping(1, four)), 1344)
        self.assertEqual(how_many_keep(1, [[0] * 4] * 4), 20160)
        self.assertEqual(len(keeping(1, [[0] * 3] * 3)), 168)

    def test_few_changes_at_greater_widths(self):
        self.assertEqual(keeping(64, [[1]]), [[[1]], [[2 ** 63 - 1]], [[2 ** 63 + 1]], [[2 ** 64 - 1]]])
        self.assertEqual(len(keeping(6, [[0, 1], [1, 0]])), how_many_keep(6, [[0, 1], [1, 0]]))
        self.assertEqual(len(keeping(20, [[2 ** 8]])), 4 * 2 ** 8)

    def test_they_can_be_joined_and_undone(self):
        for width, form in ((3, [[1, 0], [0, 1]]), (2, [[0, 1], [1, 0]]), (3, [[2, 1], [1, 2]]), (1, rows_of([(0, 1)], 3))):
            found = {as_key(change) for change in keeping(width, form)}
            for one in found:
                for other in list(found)[::7]:
                    both = [[sum(a * b for a, b in zip(row, column)) % 2 ** width for column in zip(*other)] for row in one]
                    self.assertIn(as_key(both), found)


class IsKeeping(unittest.TestCase):

    def test_whether_items_are_words_or_not(self):
        numbers = Numbers(1011)
        for form in ([[1, 0], [0, 1]], [[0, 1], [1, 0]], [[1, 0], [0, 2]], [[4, 2], [2, 6]]):
            for change in keeping(3, form):
                far = [[item + 8 * numbers.between(-GREAT, GREAT) for item in row] for row in change]
                self.assertIs(is_keeping(3, form, far), True)
                # The highest bit adds nothing, the one below it may.
                near = [[item + 4 * numbers.below(2) for item in row] for row in change]
                self.assertIs(is_keeping(3, form, near), True)

    def test_it_is_leading_to_the_form_itself(self):
        numbers = Numbers(1012)
        kept = {True: 0, False: 0}
        for at in range(400):
            size = at % 6 + 1
            form = rows_of(numbers.pieces(size, 3), size)
            change = numbers.change(size, 1) if at % 2 else [[2 * item for item in row] for row in numbers.change(size, 1)]
            if at % 2 == 0:
                for i in range(size):
                    change[i][i] += 1
            for width in (1, 2, 3):
                right = is_leading(width, form, form, change)
                self.assertIs(is_keeping(width, form, change), right)
                kept[right] += 1
        self.assertGreater(min(kept.values()), 100)

    def test_any_value_is_judged(self):
        for value in (None, True, 1, "1", (), [], {}, [[2]], [[True]], [[1, 0], [0, 1]], ([1],), [(1,)], [[1]][0], [[None]]):
            self.assertIs(is_keeping(3, [[1]], value), False, value)
        for value in ([[1]], [[-1]], [[GREAT * 8 + 1]], [[5]]):
            self.assertIs(is_keeping(3, [[1]], value), True, value)
        self.assertIs(is_keeping(4, [[1]], [[3]]), False)


class Settled(unittest.TestCase):

    def test_three_more_than_the_greatest_scale(self):
        for form in many_forms(300, 1021, 40):
            pieces = slow_pieces_of(form)
            if slow_determinant(form) == 0:
                self.assertIsNone(settled_width(form))
                self.assertIsNone(kept_from(form))
            else:
                self.assertEqual(settled_width(form), max(k for k, _ in pieces) + 3)
                self.assertEqual(kept_from(form), slow_kept_from(pieces, len(form)))
                self.assertEqual([type(item) for item in kept_from(form)], [int, int])

    def test_each_width_more_multiplies_the_number(self):
        for form in many_forms(200, 1022, 30):
            settled = settled_width(form)
            if settled:
                n, (_, many) = len(form), kept_from(form)
                for width in range(settled, 65):
                    self.assertEqual(how_many_keep(width, form), many * 2 ** ((width - settled) * (n * (n - 1) // 2)))

    def test_it_is_so_where_all_tables_can_be_gone_through(self):
        for width, size in ((3, 1), (4, 1), (6, 1), (9, 1), (3, 2), (4, 2), (5, 2), (3, 3)):
            classes = classes_by_changes(width, size)
            sizes = Counter(classes.values())
            told = 0
            for key, number in list(classes.items())[::1 + len(classes) // 400]:
                table = rows_of_key(key)
                if settled_width(table) and settled_width(table) <= width:
                    self.assertEqual(how_many_keep(width, table) * sizes[number], how_many_changes(width, size))
                    told += 1
            self.assertGreater(told, 0)

    def test_the_number_there_is_how_many_there_are(self):
        sums = [(pieces, 2) for pieces in pieces_up_to(3, 2)] + [(pieces, 3) for pieces in pieces_up_to(2, 3)[::6]]
        sums += [(pieces, 3) for pieces in ([(0, 1), (1, 1), (2, 1)], [(0, 0), (2, 1)], [(0, 3), (2, 2)])]
        sums += [(pieces, 4) for pieces in pieces_up_to(1, 4)]
        sums += [([(0, 1), (0, 5), (0, 5), (0, 7), (0, 7)], 5), ([(0, 0), (0, 2), (0, 3)], 5)]
        told = 0
        for pieces, size in sums:
            if unknowns_in(pieces) == size and max(k for k, _ in pieces) * size < 7:
                width, many = kept_from(rows_of(pieces, size))
                self.assertEqual(frames(width, rows_of(pieces, size)), many, pieces)
                told += 1
        self.assertGreater(told, 100)

    def test_scales_up_to_60(self):
        for pieces in ([(60, 1)], [(0, 1), (60, 7)], [(60, 0)] * 3, [(58, 2), (59, 1), (60, 3)], [(0, 1), (12, 1), (24, 1), (36, 1), (48, 1), (60, 1)]):
            size = unknowns_in(pieces)
            self.assertEqual(settled_width(rows_of(pieces, size)), 63)
            self.assertEqual(kept_from(rows_of(pieces, size)), slow_kept_from(pieces, size))
            self.assertEqual(how_many_keep(63, rows_of(pieces, size)), slow_kept_from(pieces, size)[1])
            with self.assertRaises(TooMany):
                how_many_keep(62, rows_of(pieces, size))


class Shares(unittest.TestCase):

    def test_by_the_words_of_point_53(self):
        for pieces in pieces_up_to(4, 3) + pieces_up_to(2, 6)[::7] + pieces_up_to(1, 6):
            form = rows_of(pieces, 6)
            expected = []
            if pieces:
                for k in range(pieces[0][0] - 1, pieces[-1][0] + 2):
                    share = slow_share(pieces, k)
                    expected.append((k, share.numerator, share.denominator))
            self.assertEqual(shares(form), expected, pieces)

    def test_forms_of_many_scales(self):
        for form in many_forms(200, 1031, 60):
            pieces = slow_pieces_of(form)
            expected = [slow_share(pieces, k) for k in range(pieces[0][0] - 1, pieces[-1][0] + 2)] if pieces else []
            self.assertEqual([Fraction(above, below) for _, above, below in shares(form)], expected)

    def test_they_tell_the_number_at_the_settled_width(self):
        for form in list(small_forms(1, -9, 9)) + list(small_forms(2, -2, 2)):
            if slow_determinant(form):
                self.assertEqual(kept_from(form), slow_kept_from(slow_pieces_of(form), len(form)))

    def test_forms_without_pieces_and_with_noughts(self):
        for size in range(1, 7):
            self.assertEqual(shares([[0] * size for _ in range(size)]), [])
        self.assertEqual(shares([[2, 0], [0, 0]]), [(0, 1, 2), (1, 1, 1), (2, 1, 2)])
        self.assertEqual(shares(rows_of([(0, 0)] * 3, 6)), [(-1, 1, 1), (0, 256, 315), (1, 1, 1)])


if __name__ == "__main__":
    unittest.main()
