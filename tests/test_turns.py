"""Points 40 to 44: eighth turns."""

import cmath
import unittest

from tests.helpers import (
    KINDS, Numbers, all_words, pieces_up_to, rows_of, slow_changed, slow_counts, slow_pieces_of, slow_value, small_forms,
    small_tables, two_sums,
)
from wordsquares.alike import are_alike
from wordsquares.counts import all_counts
from wordsquares.forms import beside
from wordsquares.parting import equal_counts, parting_word
from wordsquares.splits import scales_of
from wordsquares.symbols import plain_pieces
from wordsquares.turns import halves_at, piece_turn, taken_by_turns, turn_sum, turn_table, turns_part, zero_widths

GREAT = 10 ** 30 - 1


def point(part):
    """The point of the plane that lies a part of a whole round on from the point of 1."""
    return cmath.exp(2j * cmath.pi * part)


def point_of(told):
    """The point that a sum is."""
    return 0 if told is None else point(told[0] / 8) * 2 ** (told[1] / 2)


def counted_point(width, counts, times):
    """The sum of the points of all values, told by how often each one comes."""
    return sum(many * point(times * value % 2 ** width / 2 ** width) for value, many in enumerate(counts))


def slow_piece_turn(width, piece, times):
    """The sum of one piece by the words of point 41."""
    k, kind = piece
    size = 1 if kind % 2 else 2
    if times == 0:
        return 0, 2 * width * size
    j, u = 0, times
    while u % 2 == 0:
        j, u = j + 1, u // 2
    great = k + j
    if great >= width:
        return 0, 2 * width * size
    m = width - great
    if size == 2:
        return (4 if kind == 2 and m % 2 == 0 else 0), 2 * (width + great + 1)
    if m == 1:
        return None
    if m % 2 == 1:
        return kind * u % 8, width + great + 1
    return {1: 1, 3: 7}[kind * u % 4], width + great + 1


def product_of(told, noughts, width):
    """The product of sums, and of unknowns that stand nowhere."""
    if None in told:
        return None
    return sum(turn for turn, _ in told) % 8, sum(halves for _, halves in told) + 2 * width * noughts


def many_forms(many, seed):
    numbers = Numbers(seed)
    for at in range(many):
        size = at % 6 + 1
        if at % 3:
            yield slow_changed(rows_of(numbers.pieces(size, numbers.one_of((2, 5, 70))), size), numbers.change(size, 2))
        else:
            yield numbers.form(size, numbers.one_of((1, 7, 2 ** 40, GREAT)))


class Points(unittest.TestCase):

    def assert_point(self, told, expected, where):
        found = point_of(told)
        self.assertLess(abs(found - expected), 1e-6 * max(1, abs(expected)), where)
        if told is not None:
            self.assertTrue(type(told) is tuple and 0 <= told[0] < 8 and told[1] >= 0, where)

    def test_adding_the_points_of_all_values_at_all_words(self):
        for width, size in ((1, 1), (2, 1), (3, 1), (4, 1), (6, 1), (1, 2), (2, 2), (3, 2), (1, 3), (1, 4)):
            for table in small_tables(width, size):
                counts = slow_counts(width, table)
                for times in range(-5, 2 ** width + 3):
                    self.assert_point(turn_sum(width, table, times), counted_point(width, counts, times), (width, table, times))

    def test_one_by_one(self):
        for form in small_forms(2, -2, 2):
            values = [slow_value(2, form, words) for words in all_words(2, 2)]
            for times in range(4):
                self.assert_point(turn_sum(2, form, times), sum(point(times * value / 4) for value in values), form)

    def test_more_unknowns(self):
        for at, pieces in enumerate(pieces_up_to(3, 4)[::37]):
            form = slow_changed(rows_of(pieces, 4), Numbers(at).change(4, 2))
            counts = slow_counts(2, form)
            for times in (0, 1, 2, 3, -1):
                self.assert_point(turn_sum(2, form, times), counted_point(2, counts, times), form)
        for pieces in pieces_up_to(3, 3)[::17]:
            counts = slow_counts(3, rows_of(pieces, 3))
            for times in (1, 2, 3, 4, 5, 7, -2):
                self.assert_point(turn_sum(3, rows_of(pieces, 3), times), counted_point(3, counts, times), pieces)

    def test_pieces_alone(self):
        for kind in KINDS:
            for k in range(6):
                for width in range(1, 8 if kind % 2 else 5):
                    counts = slow_counts(width, rows_of([(k, kind)], 1 if kind % 2 else 2))
                    for times in range(-3, 2 ** width + 1):
                        where = (width, (k, kind), times)
                        self.assert_point(piece_turn(width, (k, kind), times), counted_point(width, counts, times), where)


class Pieces(unittest.TestCase):

    def test_the_words_of_point_41(self):
        for width in (1, 2, 3, 4, 5, 8, 31, 63, 64):
            for k in (0, 1, 2, 3, 7, 30, 60, 61, 62, 63, 64, 65, 1000):
                for kind in KINDS:
                    for times in (0, 1, 2, 3, 4, 5, 6, 7, 8, -1, -2, -3, -12, 40, 2 ** 62, 3 * 2 ** 61, 2 ** 64, 2 ** 70, GREAT, -GREAT, 5 ** 40):
                        expected = slow_piece_turn(width, (k, kind), times)
                        self.assertEqual(piece_turn(width, (k, kind), times), expected, (width, k, kind, times))

    def test_the_sum_of_a_form_is_the_product_of_those_of_its_pieces(self):
        numbers = Numbers(801)
        for form in many_forms(200, 802):
            pieces = slow_pieces_of(form)
            noughts = len(form) - sum(1 if kind % 2 else 2 for _, kind in pieces)
            for width in (1, 2, 5, 33, 64):
                times = numbers.between(-9, 9) << numbers.one_of((0, 0, 3, 60))
                told = [slow_piece_turn(width, piece, times) for piece in pieces]
                self.assertEqual(turn_sum(width, form, times), product_of(told, noughts, width))

    def test_the_sum_of_a_sum_of_two_forms_is_the_product(self):
        numbers = Numbers(803)
        for one in many_forms(120, 804):
            for other in ([[3]], [[0, 1], [1, 0]], [[2, 1], [1, 2]], [[0]], [[4, 0], [0, 5]]):
                if len(one) + len(other) <= 6:
                    width, times = numbers.between(1, 64), numbers.between(-50, 50)
                    told = [turn_sum(width, form, times) for form in (one, other)]
                    self.assertEqual(turn_sum(width, beside(one, other), times), product_of(told, 0, width))


class Sums(unittest.TestCase):

    def test_alike_forms_have_the_same(self):
        numbers = Numbers(811)
        for form in many_forms(150, 812):
            other = slow_changed(form, numbers.change(len(form), 3))
            for width in (1, 3, 20, 64):
                times = numbers.between(-GREAT, GREAT)
                self.assertEqual(turn_sum(width, form, times), turn_sum(width, other, times))
                self.assertEqual(halves_at(width, form), halves_at(width, other))
            self.assertEqual(zero_widths(form), zero_widths(other))
            self.assertIsNone(turns_part(form, other))

    def test_squares_of_odd_numbers_and_rests_change_nothing(self):
        numbers = Numbers(813)
        for form in many_forms(150, 814):
            for width in (1, 2, 3, 4, 9, 64):
                times = numbers.between(-30, 30) << numbers.one_of((0, 0, 1, 5))
                odd = 2 * numbers.below(1000) + 1
                found = turn_sum(width, form, times)
                self.assertEqual(turn_sum(width, form, times * odd * odd), found)
                self.assertEqual(turn_sum(width, form, times + numbers.between(-9, 9) * 2 ** width), found)

    def test_nought_and_multiples_of_the_greatest_number(self):
        for size in range(1, 7):
            form = rows_of([(0, 1)] * size, size)
            for width in (1, 2, 64):
                for times in (0, 2 ** width, -3 * 2 ** width):
                    self.assertEqual(turn_sum(width, form, times), (0, 2 * width * size))
        self.assertEqual(turn_sum(64, [[1]], 2 ** 62), (1, 127))
        self.assertEqual(turn_sum(64, [[1]], 2 ** 61), (1, 126))
        self.assertIsNone(turn_sum(64, [[1]], 2 ** 63))
        self.assertIsNone(turn_sum(64, [[1]], -2 ** 63))


class Tables(unittest.TestCase):

    def test_it_is_the_four_sums_at_each_width(self):
        for form in many_forms(60, 821):
            expected = [[turn_sum(width, form, times) for times in (1, 3, 5, 7)] for width in range(1, 65)]
            self.assertEqual(turn_table(64, form), expected)
            for width in (1, 2, 9):
                self.assertEqual(turn_table(width, form), expected[:width])

    def test_equal_tables_are_equal_counts(self):
        for width, size in ((1, 1), (2, 1), (3, 1), (1, 2), (2, 2), (1, 3)):
            tables = list(small_tables(width, size))
            told = [(turn_table(width, table), slow_counts(width, table)) for table in tables]
            for one, low in told:
                for other, high in told:
                    self.assertIs(one == other, low == high)
        for one, other in two_sums(200, 822, 8):
            for width in (2, 3, 5, 8):
                equal = turn_table(width, one) == turn_table(width, other)
                self.assertIs(equal, equal_counts(width, one, other))
                self.assertIs(equal, all_counts(width, one) == all_counts(width, other))


class TakenByTurns(unittest.TestCase):

    def test_it_is_how_often_each_word_is_taken(self):
        for width, size in ((1, 1), (2, 1), (3, 1), (5, 1), (1, 2), (2, 2), (3, 2), (1, 3), (2, 3), (1, 4)):
            for table in small_tables(width, size):
                self.assertEqual(taken_by_turns(width, table), slow_counts(width, table), (width, table))
        for form in small_forms(1, -9, 9):
            self.assertEqual(taken_by_turns(8, form), slow_counts(8, form))

    def test_it_is_what_all_sums_turned_back_add_up_to(self):
        for form in many_forms(40, 831):
            for width in (1, 2, 3, 4):
                sums = [point_of(turn_sum(width, form, times)) for times in range(2 ** width)]
                found = taken_by_turns(width, form)
                for word in range(2 ** width):
                    total = sum(told * point(-times * word / 2 ** width) for times, told in enumerate(sums))
                    self.assertLess(abs(total / 2 ** width - found[word]), 1e-6 * 2 ** (width * len(form)))

    def test_the_limit(self):
        for form in many_forms(30, 832):
            self.assertEqual(taken_by_turns(8, form), all_counts(8, form))
            self.assertEqual(sum(taken_by_turns(8, form)), 2 ** (8 * len(form)))


class Part(unittest.TestCase):

    def test_the_first_unlike_sums(self):
        widths = set()
        for one, other in two_sums(400, 841, 40):
            found = turns_part(one, other)
            expected = None
            low, high = turn_table(64, one), turn_table(64, other)
            for width in range(1, 65):
                if low[width - 1] != high[width - 1]:
                    expected = width, [1, 3, 5, 7][[a != b for a, b in zip(low[width - 1], high[width - 1])].index(True)]
                    break
            self.assertEqual(found, expected, (one, other))
            self.assertEqual(turns_part(other, one), found)
            if found:
                widths.add(found[0])
        self.assertGreater(len(widths), 30)

    def test_none_exactly_if_words_are_taken_equally_often(self):
        many = 0
        for one, other in two_sums(300, 842, 12):
            found = turns_part(one, other)
            word = parting_word(one, other)
            self.assertIs(found is None, word is None)
            if found:
                self.assertEqual(found[0], word[0])
                greatest = max([k for form in (one, other) for k, _ in plain_pieces(form)])
                self.assertLessEqual(found[0], greatest + 3)
            scales = [[scale[:2] for scale in scales_of(form)] for form in (one, other)]
            if len(one) <= 4 or scales[0] == scales[1]:
                self.assertIs(found is None, are_alike(one, other))
                many += found is None
        self.assertGreater(many, 30)

    def test_five_unknowns_that_sums_do_not_part(self):
        lone = rows_of([(0, 1), (1, 1), (1, 1), (1, 1), (2, 1)], 5)
        mate = rows_of([(0, 1), (0, 1), (1, 1), (2, 1), (2, 1)], 5)
        self.assertIs(are_alike(lone, mate), False)
        self.assertIsNone(turns_part(lone, mate))

    def test_small_ones(self):
        self.assertEqual(turns_part([[1]], [[3]]), (2, 1))
        self.assertEqual(turns_part([[1]], [[7]]), (2, 1))
        self.assertEqual(turns_part([[1]], [[2]]), (1, 1))
        self.assertIsNone(turns_part([[1]], [[9]]))

    def test_widths_above_64(self):
        self.assertEqual(turns_part([[2 ** 90]], [[5 * 2 ** 90]]), (93, 1))
        self.assertEqual(turns_part([[2 ** 90]], [[3 * 2 ** 90]]), (92, 1))
        self.assertEqual(turns_part(rows_of([(96, 0)], 2), rows_of([(96, 2)], 2)), (98, 1))
        self.assertEqual(turns_part([[0]], [[GREAT + 1]]), (31, 1))


class Halves(unittest.TestCase):

    def test_halves_of_sums_that_are_not_nought(self):
        for form in many_forms(150, 851):
            zeros = zero_widths(form)
            for width in range(1, 65):
                told = turn_sum(width, form, 1)
                self.assertIs(told is None, width in zeros)
                if told is not None:
                    self.assertEqual(halves_at(width, form), told[1])

    def test_by_the_words_of_point_44(self):
        for form in many_forms(100, 852):
            pieces = slow_pieces_of(form)
            scales = [k for k, kind in pieces for _ in range(1 if kind % 2 else 2)]
            for width in (1, 2, 5, 64):
                lesser = [min(width, k + 1) for k in scales] + [width] * (len(form) - len(scales))
                self.assertEqual(halves_at(width, form), sum(width + number for number in lesser))
            squares = sorted({k + 1 for k, kind in pieces if kind % 2})
            self.assertEqual(zero_widths(form), squares)

    def test_widths_of_any_size(self):
        self.assertEqual(zero_widths([[1, 0], [0, 2 ** 99]]), [1, 100])
        self.assertEqual(zero_widths([[0]]), [])
        self.assertEqual(zero_widths(rows_of([(0, 1), (0, 3), (4, 0), (7, 7)], 6)), [1, 8])
        self.assertEqual(halves_at(64, [[0]]), 128)
        self.assertEqual(halves_at(1, [[1]]), 2)
        self.assertEqual(halves_at(64, rows_of([(70, 0)], 3)), 384)


if __name__ == "__main__":
    unittest.main()
