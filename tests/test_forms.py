"""Points 4, 6 and 7: words, forms, tables and changes."""

import unittest
from itertools import product

from tests.helpers import (
    Numbers, all_words, slow_changed, slow_determinant, slow_table, slow_value, small_forms, small_tables,
)
from wordsquares.forms import (
    beside, changed, determinant, is_change, is_form, joined, moved, parting_words, table_of, undone, value_at,
)

GREAT = 10 ** 30 - 1


def unit(size):
    return [[int(i == j) for j in range(size)] for i in range(size)]


def great_inputs(many, seed):
    """Tuples (width, size, form, change) of many sizes of numbers, up to the limits."""
    numbers = Numbers(seed)
    for at in range(many):
        size = at % 6 + 1
        width = numbers.one_of((1, 2, 3, 5, 8, 32, 63, 64))
        most = numbers.one_of((1, 3, 20, 2 ** 33, GREAT))
        yield width, size, numbers.form(size, most), numbers.change(size, numbers.one_of((1, 3, 50)))


class Values(unittest.TestCase):

    def test_small_forms_at_all_words(self):
        for width in (1, 2, 3):
            for form in small_forms(2, -3, 4):
                for words in all_words(width, 2):
                    self.assertEqual(value_at(width, form, words), slow_value(width, form, words))

    def test_great_forms(self):
        numbers = Numbers(11)
        for width, size, form, _ in great_inputs(600, 1):
            words = numbers.words(width, size)
            self.assertEqual(value_at(width, form, words), slow_value(width, form, words))

    def test_the_product_of_two_unlike_words_comes_twice(self):
        self.assertEqual(value_at(8, [[0, 5], [5, 0]], [3, 7]), 2 * 5 * 3 * 7)
        self.assertEqual(value_at(64, [[-1, 0], [0, 0]], [2 ** 63, 1]), 0)
        self.assertEqual(value_at(64, [[GREAT]], [2 ** 64 - 1]), GREAT % 2 ** 64)


class Tables(unittest.TestCase):

    def test_items_are_cut(self):
        for width, _, form, _ in great_inputs(600, 2):
            self.assertEqual(table_of(width, form), slow_table(width, form))
            self.assertTrue(is_form(table_of(width, form)))
        self.assertEqual(table_of(1, [[3, 5], [5, -1]]), [[1, 0], [0, 1]])

    def test_equal_tables_exactly_where_all_values_are_equal(self):
        for width in (1, 2):
            words = all_words(width, 2)
            found = {}
            for form in small_forms(2, -2, 3):
                values = tuple(slow_value(width, form, some) for some in words)
                found.setdefault(values, []).append(table_of(width, form))
            tables = [group[0] for group in found.values()]
            for group in found.values():
                self.assertTrue(all(table == group[0] for table in group))
            for at, table in enumerate(tables):
                self.assertNotIn(table, tables[:at])


class PartingWords(unittest.TestCase):

    def slow_parting_words(self, width, one, other):
        for words in all_words(width, len(one)):
            if slow_value(width, one, words) != slow_value(width, other, words):
                return words
        return None

    def test_all_pairs_of_small_forms(self):
        for width, size in ((1, 1), (2, 1), (3, 1), (1, 2), (2, 2), (1, 3)):
            tables = list(small_tables(width, size))
            for one, other in product(tables, tables):
                found = parting_words(width, one, other)
                self.assertEqual(found, self.slow_parting_words(width, one, other), (width, one, other))

    def test_some_forms_of_three_and_four_unknowns(self):
        numbers = Numbers(21)
        for at in range(300):
            size = 3 + at % 2
            width = 2 if size == 4 else numbers.between(2, 3)
            one = numbers.form(size, 8)
            other = [row[:] for row in one]
            for _ in range(numbers.between(0, 2)):
                i, j = numbers.below(size), numbers.below(size)
                other[i][j] = other[j][i] = numbers.between(-8, 8)
            found = parting_words(width, one, other)
            self.assertEqual(found, self.slow_parting_words(width, one, other), (width, one, other))

    def test_they_part_and_there_are_none_exactly_for_equal_tables(self):
        numbers = Numbers(22)
        for width, size, one, _ in great_inputs(600, 3):
            other = [row[:] for row in one]
            i, j = numbers.below(size), numbers.below(size)
            other[i][j] = other[j][i] = one[i][j] + (numbers.between(-4, 4) << numbers.below(width + 1))
            words = parting_words(width, one, other)
            if slow_table(width, one) == slow_table(width, other):
                self.assertIsNone(words)
            else:
                self.assertNotEqual(slow_value(width, one, words), slow_value(width, other, words))
                self.assertIn(sorted(words), ([0] * (size - 1) + [1], [0] * (size - 2) + [1, 1]))

    def test_a_form_and_itself(self):
        for width, _, form, _ in great_inputs(60, 4):
            self.assertIsNone(parting_words(width, form, form))
            self.assertIsNone(parting_words(width, form, slow_table(width, form)))


class Beside(unittest.TestCase):

    def test_the_value_is_the_sum_of_both(self):
        numbers = Numbers(31)
        for at in range(400):
            low = at % 5 + 1
            high = numbers.between(1, 6 - low)
            one, other = numbers.form(low, 10 ** 6), numbers.form(high, GREAT)
            both = beside(one, other)
            self.assertTrue(is_form(both))
            self.assertEqual(len(both), low + high)
            width = numbers.between(1, 64)
            ahead, behind = numbers.words(width, low), numbers.words(width, high)
            total = slow_value(width, one, ahead) + slow_value(width, other, behind)
            self.assertEqual(value_at(width, both, ahead + behind), total % 2 ** width)

    def test_the_unknowns_of_the_one_stand_ahead(self):
        self.assertEqual(beside([[1]], [[2]]), [[1, 0], [0, 2]])
        self.assertEqual(beside([[1, 2], [2, 3]], [[4]]), [[1, 2, 0], [2, 3, 0], [0, 0, 4]])
        self.assertEqual(beside([[4]], [[1, 2], [2, 3]]), [[4, 0, 0], [0, 1, 2], [0, 2, 3]])


class Determinants(unittest.TestCase):

    def test_small_ones(self):
        for items in product(range(-2, 3), repeat=4):
            rows = [list(items[:2]), list(items[2:])]
            self.assertEqual(determinant(rows), items[0] * items[3] - items[1] * items[2])
            self.assertIs(is_change(rows), determinant(rows) % 2 == 1)
        for items in product((-1, 0, 2), repeat=9):
            rows = [list(items[at:at + 3]) for at in (0, 3, 6)]
            self.assertEqual(determinant(rows), slow_determinant(rows))

    def test_all_rows_of_bits(self):
        for items in product((0, 1), repeat=9):
            rows = [list(items[at:at + 3]) for at in (0, 3, 6)]
            self.assertEqual(determinant(rows), slow_determinant(rows))
            self.assertIs(is_change(rows), slow_determinant(rows) % 2 == 1)

    def test_great_ones(self):
        numbers = Numbers(41)
        for at in range(240):
            size = at % 6 + 1
            most = numbers.one_of((1, 2, 10, GREAT))
            rows = [[numbers.between(-most, most) for _ in range(size)] for _ in range(size)]
            if at % 3 == 0:
                rows[numbers.below(size)] = list(rows[numbers.below(size)])
            self.assertEqual(determinant(rows), slow_determinant(rows))
            self.assertIs(is_change(rows), slow_determinant(rows) % 2 == 1)

    def test_it_need_not_be_odd(self):
        self.assertEqual([determinant([[0]]), determinant([[2, 4], [1, 6]]), determinant(unit(6))], [0, 8, 1])
        self.assertEqual(determinant([[0, 0, 3], [0, 5, 0], [7, 0, 0]]), -105)
        self.assertEqual(determinant([[GREAT, 1], [1, -GREAT]]), -GREAT * GREAT - 1)


class Changes(unittest.TestCase):

    def test_small_changes(self):
        form = [[1, 2], [2, 5]]
        for items in product(range(-2, 3), repeat=4):
            change = [list(items[:2]), list(items[2:])]
            if slow_determinant(change) % 2:
                self.assertEqual(changed(form, change), slow_changed(form, change))
                for words in all_words(2, 2):
                    there = moved(2, change, words)
                    self.assertEqual(slow_value(2, changed(form, change), words), slow_value(2, form, there))

    def test_the_value_of_the_changed_form_is_that_at_the_moved_words(self):
        numbers = Numbers(51)
        for width, size, form, change in great_inputs(900, 5):
            other = changed(form, change)
            self.assertTrue(is_form(other))
            self.assertEqual(other, slow_changed(form, change))
            words = numbers.words(width, size)
            there = moved(width, change, words)
            self.assertEqual(slow_value(width, other, words), slow_value(width, form, there))

    def test_moved_words(self):
        numbers = Numbers(52)
        for width, size, _, change in great_inputs(300, 6):
            words = numbers.words(width, size)
            there = [sum(change[i][j] * words[j] for j in range(size)) % 2 ** width for i in range(size)]
            self.assertEqual(moved(width, change, words), there)

    def test_joined_changes_are_their_product(self):
        numbers = Numbers(53)
        for width, size, form, one in great_inputs(600, 7):
            other = numbers.change(size, 5)
            both = joined(one, other)
            self.assertTrue(is_change(both))
            product_rows = [
                [sum(one[i][a] * other[a][j] for a in range(size)) for j in range(size)] for i in range(size)
            ]
            self.assertEqual(both, product_rows)
            words = numbers.words(width, size)
            self.assertEqual(moved(width, both, words), moved(width, one, moved(width, other, words)))
            self.assertEqual(changed(changed(form, one), other), changed(form, both))

    def test_undone_changes_move_back_and_bring_the_table_back(self):
        numbers = Numbers(54)
        for width, size, form, change in great_inputs(900, 8):
            back = undone(width, change)
            self.assertTrue(all(0 <= item < 2 ** width for row in back for item in row))
            self.assertTrue(is_change(back))
            words = numbers.words(width, size)
            self.assertEqual(moved(width, back, moved(width, change, words)), words)
            self.assertEqual(moved(width, change, moved(width, back, words)), words)
            again = changed(changed(form, change), back)
            self.assertEqual(slow_table(width, again), slow_table(width, form))

    def test_the_undone_change_is_the_only_one_of_words(self):
        for width in (1, 2):
            whole = range(2 ** width)
            changes = [
                [list(items[:2]), list(items[2:])] for items in product(whole, repeat=4)
                if (items[0] * items[3] - items[1] * items[2]) % 2
            ]
            for change in changes:
                fitting = [
                    back for back in changes
                    if all(moved(width, back, moved(width, change, words)) == words for words in ([1, 0], [0, 1]))
                ]
                self.assertEqual(fitting, [undone(width, change)])

    def test_undone_changes_of_great_items(self):
        numbers = Numbers(55)
        for size in range(1, 7):
            for _ in range(20):
                change = [[2 * numbers.between(-GREAT // 2, GREAT // 2) for _ in range(size)] for _ in range(size)]
                for i in range(size):
                    change[i][(i + 1) % size] += 1
                back = undone(64, change)
                both = [[item % 2 ** 64 for item in row] for row in joined(back, change)]
                self.assertEqual(both, unit(size))

    def test_a_change_that_changes_nothing(self):
        for width, size, form, _ in great_inputs(60, 9):
            self.assertEqual(changed(form, unit(size)), form)
            self.assertEqual(undone(width, unit(size)), unit(size))


if __name__ == "__main__":
    unittest.main()
