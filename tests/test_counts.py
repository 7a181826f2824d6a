"""Points 34 to 36: how often words are taken."""

import cmath
import unittest

from tests.helpers import (
    Numbers, pieces_up_to, rows_of, slow_changed, slow_counts, slow_determinant, slow_pieces_of, slow_value,
    small_forms, small_tables, all_words,
)
from wordsquares.counts import all_counts, counts_along, how_often, odd_noughts
from wordsquares.forms import beside

GREAT = 10 ** 30 - 1
SMALL = ((1, 1), (2, 1), (3, 1), (4, 1), (6, 1), (1, 2), (2, 2), (3, 2), (1, 3), (2, 3), (1, 4))


def slow_odd_noughts(width, form):
    return sum(
        1 for words in all_words(width, len(form))
        if any(word % 2 for word in words) and slow_value(width, form, words) == 0
    )


def many_forms(many, seed):
    numbers = Numbers(seed)
    for at in range(many):
        size = at % 6 + 1
        if at % 2:
            yield slow_changed(rows_of(numbers.pieces(size, numbers.one_of((2, 5, 9))), size), numbers.change(size, 2))
        else:
            yield numbers.form(size, numbers.one_of((1, 7, 2 ** 40, GREAT)))


class AllLists(unittest.TestCase):

    def test_all_small_tables(self):
        for width, size in SMALL:
            for table in small_tables(width, size):
                expected = slow_counts(width, table)
                self.assertEqual(all_counts(width, table), expected, (width, table))
                self.assertEqual([how_often(width, table, word) for word in range(2 ** width)], expected)
                self.assertEqual(odd_noughts(width, table), slow_odd_noughts(width, table))

    def test_small_forms_and_all_pieces(self):
        for form in small_forms(2, -3, 4):
            self.assertEqual(all_counts(3, form), slow_counts(3, form))
        for pieces in pieces_up_to(5, 2):
            for width in (1, 2, 3, 4):
                self.assertEqual(all_counts(width, rows_of(pieces, 2)), slow_counts(width, rows_of(pieces, 2)))

    def test_one_and_two_unknowns_at_greater_widths(self):
        for form in small_forms(1, -20, 20):
            for width in (5, 8, 10):
                self.assertEqual(all_counts(width, form), slow_counts(width, form))
        for pieces in pieces_up_to(6, 2)[::17]:
            self.assertEqual(all_counts(6, rows_of(pieces, 2)), slow_counts(6, rows_of(pieces, 2)))

    def test_many_unknowns(self):
        for at, form in enumerate(many_forms(120, 501)):
            for width in (1, 2) if len(form) < 5 else (1,):
                self.assertEqual(all_counts(width, form), slow_counts(width, form))
                self.assertEqual(odd_noughts(width, form), slow_odd_noughts(width, form))


class Rules(unittest.TestCase):

    def test_all_words_together_are_all_lists(self):
        for form in many_forms(120, 511):
            for width in (1, 3, 7, 10):
                found = all_counts(width, form)
                self.assertEqual(len(found), 2 ** width)
                self.assertEqual(sum(found), 2 ** (width * len(form)))
                self.assertTrue(all(type(many) is int and many >= 0 for many in found))

    def test_the_rule_of_turns(self):
        # Point 34 as it stands, with points of the plane, at small widths.
        for form in list(small_forms(1, -4, 8)) + list(small_forms(2, -1, 2)):
            for width in (1, 2, 3):
                values = [slow_value(width, form, words) for words in all_words(width, len(form))]
                for word in range(2 ** width):
                    total = 0
                    for j in range(width + 1):
                        for u in range(1, 2 ** j, 2) if j else (0,):
                            total += sum(cmath.exp(2j * cmath.pi * u * (value - word) / 2 ** j) for value in values)
                    self.assertAlmostEqual(total, how_often(width, form, word) * 2 ** width, places=6)

    def test_an_odd_factor_that_is_1_by_8_changes_nothing(self):
        numbers = Numbers(512)
        for form in many_forms(200, 513):
            for width in (4, 9, 33, 64):
                word = numbers.below(2 ** width) >> numbers.below(width)
                other = word * (8 * numbers.below(10 ** 9) + 1) % 2 ** width
                self.assertEqual(how_often(width, form, word), how_often(width, form, other))

    def test_alike_forms_take_words_equally_often(self):
        numbers = Numbers(514)
        for form in many_forms(150, 515):
            other = slow_changed(form, numbers.change(len(form), 3))
            for width in (1, 5, 64):
                word = numbers.below(2 ** width)
                self.assertEqual(how_often(width, form, word), how_often(width, other, word))
                self.assertEqual(odd_noughts(width, form), odd_noughts(width, other))

    def test_a_sum_of_two_forms_takes_words_in_all_ways(self):
        for one in list(many_forms(20, 516)):
            for other in ([[3]], [[0, 1], [1, 0]], [[2, 1], [1, 2]], [[0]]):
                if len(one) + len(other) <= 6:
                    low, high = all_counts(5, one), all_counts(5, other)
                    both = [sum(low[a] * high[(word - a) % 32] for a in range(32)) for word in range(32)]
                    self.assertEqual(all_counts(5, beside(one, other)), both)

    def test_a_width_more_of_the_form_times_4(self):
        # Four times a form takes the word 4c as often as the form takes c at the width less 2, 4 ** n times.
        numbers = Numbers(517)
        for form in many_forms(100, 518):
            size = len(form)
            great = [[4 * item for item in row] for row in form]
            for width in (3, 8, 64):
                word = numbers.below(2 ** (width - 2))
                self.assertEqual(how_often(width, great, 4 * word), how_often(width - 2, form, word) * 4 ** size)
                self.assertEqual(how_often(width, great, 4 * word + 2), 0)

    def test_the_greatest_width(self):
        top = 2 ** 64
        self.assertEqual([how_often(64, [[1]], word) for word in (0, 1, 2, 3, 4, 9, 17, top - 1)],
                         [2 ** 32, 4, 0, 0, 8, 4, 4, 0])
        self.assertEqual(how_often(64, [[0]], 0), top)
        self.assertEqual(how_often(64, [[0, 1], [1, 0]], 2), 2 ** 64)
        self.assertEqual(how_often(64, [[0, 1], [1, 0]], top - 1), 0)
        self.assertEqual(how_often(64, [[0] * 6] * 6, 1), 0)
        self.assertEqual(how_often(64, [[0] * 6] * 6, 0), top ** 6)
        self.assertEqual(how_often(64, [[2 ** 63]], 2 ** 63), 2 ** 63)
        self.assertEqual(how_often(64, [[2 ** 64]], 0), top)


class Along(unittest.TestCase):

    def test_it_is_how_often_at_each_width(self):
        numbers = Numbers(521)
        for form in many_forms(60, 522):
            number = numbers.one_of((-1, 1)) * numbers.between(0, numbers.one_of((3, 40, GREAT)))
            found = counts_along(form, number, 64)
            self.assertEqual(found, [how_often(width, form, number % 2 ** width) for width in range(1, 65)])
            for many in (1, 2, 5):
                self.assertEqual(counts_along(form, number, many), found[:many])

    def test_from_the_width_v_and_3_on_each_width_more_multiplies_it(self):
        numbers = Numbers(523)
        for form in many_forms(200, 524):
            twos = numbers.below(numbers.one_of((3, 30)))
            number = numbers.one_of((-1, 1)) * (2 * numbers.below(50) + 1) * 2 ** twos
            found = counts_along(form, number, 64)
            for width in range(twos + 3, 64):
                self.assertEqual(found[width], found[width - 1] * 2 ** (len(form) - 1), (form, number, width))

    def test_small_ones(self):
        for form in list(small_forms(1, -5, 9)) + list(small_forms(2, -1, 2)):
            for number in range(-5, 10):
                expected = [slow_counts(width, form)[number % 2 ** width] for width in (1, 2, 3, 4)]
                self.assertEqual(counts_along(form, number, 4), expected)


class OddNoughts(unittest.TestCase):

    def test_the_others_are_told_at_the_width_less_2(self):
        for form in many_forms(150, 531):
            for width in (2, 3, 4, 9, 63, 64):
                less = how_often(width - 2, form, 0) if width > 2 else 1
                self.assertEqual(odd_noughts(width, form), how_often(width, form, 0) - 2 ** len(form) * less)
            self.assertEqual(odd_noughts(1, form), how_often(1, form, 0) - 1)

    def test_from_the_width_t_and_3_on_each_width_more_multiplies_it(self):
        many = 0
        for form in many_forms(300, 532):
            if slow_determinant(form) != 0:
                width = max(k + 3 if kind % 2 else k + 4 for k, kind in slow_pieces_of(form))
                while width < 64:
                    expected = odd_noughts(width, form) * 2 ** (len(form) - 1)
                    self.assertEqual(odd_noughts(width + 1, form), expected, (form, width))
                    width += 9
                    many += 1
        self.assertGreater(many, 500)

    def test_written_ones(self):
        self.assertEqual([odd_noughts(width, [[0, 1], [1, 0]]) for width in (1, 2, 3, 4)], [3, 8, 16, 32])
        self.assertEqual([odd_noughts(width, [[2, 1], [1, 2]]) for width in (1, 2, 3, 64)], [3, 0, 0, 0])
        self.assertEqual([odd_noughts(width, [[0]]) for width in (1, 2, 64)], [1, 2, 2 ** 63])
        self.assertEqual([odd_noughts(width, [[8]]) for width in (1, 2, 3, 4, 64)], [1, 2, 4, 0, 0])


if __name__ == "__main__":
    unittest.main()
