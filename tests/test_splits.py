"""Points 10 to 13: how forms fall into pieces."""

import unittest
from itertools import product

from tests.helpers import (
    Numbers, scales_in, slow_changed, slow_determinant, slow_pieces_at, slow_pieces_of, slow_rank, slow_table,
    small_forms, small_tables, twos,
)
from wordsquares.forms import is_change
from wordsquares.pieces import cut, is_pieces, sum_of, unknowns_of
from wordsquares.splits import fewest_twos, is_split, pieces_at, pieces_of, scales_of, split

GREAT = 10 ** 30 - 1
SMALL = ((1, 1), (2, 1), (3, 1), (4, 1), (5, 1), (6, 1), (1, 2), (2, 2), (3, 2), (4, 2), (1, 3), (2, 3), (1, 4))


def some_forms(many, seed):
    """Tuples (width, form) of many sizes of numbers, up to the limits."""
    numbers = Numbers(seed)
    for at in range(many):
        size = at % 6 + 1
        width = numbers.one_of((1, 2, 3, 4, 5, 6, 8, 31, 32, 63, 64))
        form = numbers.form(size, numbers.one_of((1, 2, 4, 20, 2 ** 33, GREAT)))
        if at % 4 == 3:
            # A change of a sum with few unknowns: a form whose determinant is often 0.
            form = slow_changed(sum_of(numbers.pieces(size, 6), size), numbers.change(size, 3))
        yield width, form


class ToldWay(unittest.TestCase):

    def test_all_small_tables(self):
        for width, size in SMALL:
            for form in small_tables(width, size):
                self.assertEqual(pieces_at(width, form), slow_pieces_at(width, form), (width, form))

    def test_many_forms(self):
        for width, form in some_forms(1500, 71):
            found = pieces_at(width, form)
            self.assertEqual(found, slow_pieces_at(width, form), (width, form))
            self.assertTrue(is_pieces(found))
            self.assertEqual(cut(width, found), found)

    def test_only_the_table_counts(self):
        for width, form in some_forms(300, 72):
            self.assertEqual(pieces_at(width, form), pieces_at(width, slow_table(width, form)))

    def test_sums_of_pieces_fall_into_what_is_left_of_them(self):
        numbers = Numbers(73)
        for _ in range(600):
            width = numbers.between(1, 64)
            pieces = numbers.pieces(6, numbers.one_of((4, width + 2)))
            self.assertEqual(pieces_at(width, sum_of(pieces, 6)), cut(width, pieces))

    def test_written_ones(self):
        self.assertEqual(pieces_at(1, [[1, 5], [5, 1]]), [(0, 1), (0, 1)])
        self.assertEqual(pieces_at(2, [[0, 1], [1, 0]]), [(0, 0)])
        self.assertEqual(pieces_at(2, [[2, 1], [1, 2]]), [(0, 2)])
        self.assertEqual(pieces_at(1, [[2, 1], [1, 2]]), [])
        self.assertEqual(pieces_at(3, [[7]]), [(0, 7)])
        self.assertEqual(pieces_at(2, [[7]]), [(0, 3)])
        self.assertEqual(pieces_at(64, [[-1]]), [(0, 7)])
        self.assertEqual(pieces_at(64, [[2 ** 63]]), [(63, 1)])


class Split(unittest.TestCase):

    def assert_split(self, width, form):
        pieces, change = found = split(width, form)
        self.assertIs(type(found), tuple)
        self.assertEqual(pieces, slow_pieces_at(width, form))
        self.assertTrue(is_change(change))
        self.assertEqual(len(change), len(form))
        there = slow_table(width, slow_changed(form, change))
        self.assertEqual(there, slow_table(width, sum_of(pieces, len(form))), (width, form))
        self.assertIs(is_split(width, form, found), True)

    def test_all_small_tables(self):
        for width, size in SMALL:
            for form in small_tables(width, size):
                self.assert_split(width, form)

    def test_many_forms(self):
        for width, form in some_forms(1500, 81):
            self.assert_split(width, form)

    def test_pairs_at_great_scales(self):
        for width in (2, 3, 4, 5, 63, 64):
            for k in (0, 1, width - 3, width - 2, width - 1):
                for low, between, high in product(range(4), (1, 3, 5, -1), range(4)):
                    if k >= 0:
                        form = [[low << (k + 1), between << k], [between << k, high << (k + 1)]]
                        self.assert_split(width, form)

    def test_squares_of_all_odd_numbers(self):
        for width in range(1, 9):
            for odd in range(1, 2 ** width, 2):
                for k in range(3):
                    self.assert_split(width, [[odd << k]])


class IsSplit(unittest.TestCase):

    def test_all_small_values(self):
        some = [[]] + [[(k, kind)] for k in range(4) for kind in (0, 1, 2, 3, 5, 7)]
        some += [[(0, 1), (2, 1)], [(0, 1), (2, 3)], [(0, 1), (0, 1)], [(0, 1), (0, 3)], [(0, 1), (1, 1)], [(0, 1), (0, 1), (0, 1)]]
        changes = [[list(items[:2]), list(items[2:])] for items in product(range(-1, 3), repeat=4)]
        changes = [change for change in changes if slow_determinant(change) % 2]
        for width, form in ((1, [[1, 0], [0, 1]]), (2, [[2, 1], [1, 2]]), (2, [[1, 1], [1, 3]]), (3, [[1, 0], [0, 4]])):
            found = 0
            for pieces, change in product(some, changes):
                right = unknowns_of(pieces) <= 2
                if right:
                    there = slow_table(width, slow_changed(form, change))
                    right = there == slow_table(width, sum_of(pieces, 2))
                self.assertIs(is_split(width, form, (pieces, change)), right, (width, form, pieces, change))
                found += right
            self.assertGreater(found, 0)

    def test_any_pieces_and_not_the_told_ones_alone(self):
        two = [[1, 0], [0, 1]]
        for width in (1, 2, 3, 64):
            self.assertIs(is_split(width, two, ([(0, 5), (0, 5)], [[1, -2], [2, 1]])), True)
        self.assertIs(is_split(2, two, ([(0, 1), (0, 5)], two)), True)
        self.assertIs(is_split(3, two, ([(0, 1), (0, 5)], two)), False)

    def test_pieces_that_are_nothing_at_the_width(self):
        for k in (4, 5, 64, 1000, 10 ** 20):
            self.assertIs(is_split(4, [[1, 0], [0, 0]], ([(0, 1), (k, 7)], [[1, 0], [0, 1]])), True)
            self.assertIs(is_split(4, [[0, 0], [0, 0]], ([(k, 2)], [[1, 1], [0, 1]])), True)
            self.assertIs(is_split(64, [[0, 0], [0, 0]], ([(k, 2)], [[1, 1], [0, 1]])), k > 63)
        self.assertIs(is_split(4, [[0, 0], [0, 0]], ([(3, 2)], [[1, 0], [0, 1]])), True)
        self.assertIs(is_split(4, [[0, 0], [0, 0]], ([(3, 1)], [[1, 0], [0, 1]])), False)

    def test_pieces_of_more_unknowns_are_none(self):
        self.assertIs(is_split(3, [[1]], ([(0, 1), (5, 1)], [[1]])), False)
        self.assertIs(is_split(3, [[1]], ([(0, 1)], [[1]])), True)
        self.assertIs(is_split(3, [[0]], ([(9, 0)], [[1]])), False)

    def test_a_spoilt_split_is_none(self):
        numbers = Numbers(82)
        for width, form in some_forms(300, 83):
            pieces, change = split(width, form)
            i, j = numbers.below(len(form)), numbers.below(len(form))
            change[i][j] += numbers.between(1, 6)
            right = slow_determinant(change) % 2 == 1
            if right:
                there = slow_table(width, slow_changed(form, change))
                right = there == slow_table(width, sum_of(pieces, len(form)))
            self.assertIs(is_split(width, form, (pieces, change)), right)

    def test_items_that_are_no_words(self):
        for width, form in some_forms(60, 84):
            pieces, change = split(width, form)
            more = [[item - (5 << width) for item in row] for row in change]
            self.assertIs(is_split(width, form, (pieces, more)), True)


class WithoutAWidth(unittest.TestCase):

    def test_all_small_forms(self):
        for size, low, high in ((1, -70, 70), (2, -7, 8), (3, -1, 2)):
            for form in small_forms(size, low, high):
                self.assertEqual(pieces_of(form), slow_pieces_of(form), form)

    def test_many_forms(self):
        for _, form in some_forms(1200, 91):
            found = pieces_of(form)
            self.assertEqual(found, slow_pieces_of(form), form)
            self.assertTrue(is_pieces(found))

    def test_pieces_of_both_ways_agree_below_the_width_less_one(self):
        for width, form in list(some_forms(900, 92)) + [(3, form) for form in small_forms(2, -6, 9)]:
            low = [piece for piece in cut(width, pieces_of(form)) if piece[0] < width - 1]
            self.assertEqual(low, [piece for piece in pieces_at(width, form) if piece[0] < width - 1], (width, form))

    def test_at_every_width_the_form_is_alike_with_their_sum(self):
        # At a width greater by two the told way's pieces are the same up to what is left at the width.
        for _, form in list(some_forms(120, 93)) + [(1, form) for form in small_forms(2, -3, 4)]:
            pieces = pieces_of(form)
            for width in (1, 2, 3, 4, 5, 17, 62):
                change = split(width + 2, form)[1]
                self.assertIs(is_split(width, form, (pieces, change)), True, (width, form))

    def test_unknowns_that_stand_nowhere_and_the_rank(self):
        for _, form in list(some_forms(900, 94)) + [(1, form) for form in small_forms(3, -1, 1)]:
            self.assertEqual(len(form) - unknowns_of(pieces_of(form)), len(form) - slow_rank(form), form)

    def test_the_determinant(self):
        many = 0
        for _, form in list(some_forms(900, 95)) + [(1, form) for form in small_forms(3, -1, 2)]:
            pieces, whole = pieces_of(form), slow_determinant(form)
            if unknowns_of(pieces) == len(form):
                many += 1
                scales, odd = 0, 1
                for k, kind in pieces:
                    scales += k if kind % 2 else 2 * k
                    odd = odd * {0: 7, 2: 3}.get(kind, kind) % 8
                self.assertEqual(twos(whole), scales)
                self.assertEqual((whole >> scales) % 8, odd)
            else:
                self.assertEqual(whole, 0)
        self.assertGreater(many, 500)

    def test_fractions_count_by_numerator_times_denominator(self):
        # Behind 3 the second item is 1 - 1 / 3 = 2 / 3, and behind 5 it is 2 - 4 / 5 = 6 / 5.
        self.assertEqual(pieces_of([[3, 1], [1, 1]]), [(0, 3), (1, 3)])
        self.assertEqual(pieces_of([[5, 2], [2, 2]]), [(0, 5), (1, 7)])
        self.assertEqual(pieces_of([[-3, 1], [1, 1]]), [(0, 5), (2, 3)])

    def test_scales_have_no_bound(self):
        self.assertEqual(pieces_of([[2 ** 90]]), [(90, 1)])
        self.assertEqual(pieces_of([[-3 * 2 ** 1000]]), [(1000, 5)])
        self.assertEqual(pieces_of([[0, 2 ** 70], [2 ** 70, 0]]), [(70, 0)])
        self.assertEqual(pieces_of([[0] * 6] * 6), [])


class Scales(unittest.TestCase):

    def test_they_are_those_of_the_pieces(self):
        for _, form in list(some_forms(900, 101)) + [(1, form) for form in small_forms(2, -6, 8)]:
            found = scales_of(form)
            self.assertEqual(found, scales_in(slow_pieces_of(form)))
            for k, many, odd in found:
                self.assertEqual((type(k), type(many), type(odd)), (int, int, bool))

    def test_changes_do_not_change_them(self):
        numbers = Numbers(102)
        for _, form in some_forms(1200, 103):
            change = numbers.change(len(form), numbers.one_of((1, 3, 30)))
            self.assertEqual(scales_of(slow_changed(form, change)), scales_of(form), (form, change))

    def test_kinds_may_be_others_though(self):
        form, change = [[1, 0], [0, 2]], [[1, -2], [1, 1]]
        self.assertEqual(slow_changed(form, change), [[3, 0], [0, 6]])
        self.assertEqual([pieces_of(form), pieces_of([[3, 0], [0, 6]])], [[(0, 1), (1, 1)], [(0, 3), (1, 3)]])
        self.assertEqual(scales_of(form), scales_of([[3, 0], [0, 6]]))

    def test_written_ones(self):
        self.assertEqual(scales_of([[0]]), [])
        self.assertEqual(scales_of([[0, 1, 0], [1, 0, 0], [0, 0, 1]]), [(0, 3, True)])
        self.assertEqual(scales_of([[0, 1, 0], [1, 0, 0], [0, 0, 2]]), [(0, 2, False), (1, 1, True)])


class FewestTwos(unittest.TestCase):

    def slow_fewest_twos(self, form):
        """The fewest twos of the values at small words: two unknowns are enough for the least ones."""
        found = []
        for words in product(range(3), repeat=len(form)):
            value = sum(
                form[i][j] * words[i] * words[j] for i in range(len(form)) for j in range(len(form))
            )
            if value:
                found.append(twos(value))
        return min(found, default=None)

    def test_small_forms(self):
        for size, low, high in ((1, -20, 20), (2, -6, 8), (3, -1, 2)):
            for form in small_forms(size, low, high):
                self.assertEqual(fewest_twos(form), self.slow_fewest_twos(form), form)

    def test_many_forms(self):
        for _, form in some_forms(400, 111):
            self.assertEqual(fewest_twos(form), self.slow_fewest_twos(form), form)

    def test_none_exactly_if_all_values_are_nought(self):
        for size in range(1, 7):
            self.assertIsNone(fewest_twos([[0] * size for _ in range(size)]))
        self.assertEqual(fewest_twos([[2 ** 99]]), 99)


if __name__ == "__main__":
    unittest.main()
