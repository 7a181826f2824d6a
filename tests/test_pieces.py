"""Points 8 and 9: pieces, their sums, and what is left of them at a width."""

import unittest
from itertools import combinations_with_replacement, product

from tests.helpers import KINDS, Numbers, all_words, slow_changed, slow_table, slow_value
from wordsquares.forms import is_form, table_of
from wordsquares.pieces import cut, is_pieces, sum_of, times, together, unknowns_of
from wordsquares.splits import pieces_of


def small_pieces(scales, most):
    """All pieces with scales below a number, at most so many of them and of at most six unknowns."""
    kinds = [(k, kind) for k in range(scales) for kind in KINDS]
    for many in range(most + 1):
        for found in combinations_with_replacement(kinds, many):
            if many_unknowns(found) <= 6:
                yield list(found)


def many_unknowns(pieces):
    return sum({0: 2, 2: 2}.get(kind, 1) for _, kind in pieces)


def piece_value(k, kind, words):
    """The value of a piece at its own words, by the words of point 8, not cut."""
    if kind in (1, 3, 5, 7):
        return 2 ** k * kind * words[0] * words[0]
    x, y = words
    return 2 ** k * 2 * x * y if kind == 0 else 2 ** k * (2 * x * x + 2 * x * y + 2 * y * y)


def slow_cut(width, pieces):
    left = []
    for k, kind in pieces:
        if kind in (0, 2):
            if k < width - 1:
                left.append((k, kind))
        elif k < width:
            left.append((k, kind % 2 ** (width - k)))
    return sorted(left)


class IsPieces(unittest.TestCase):

    def test_all_small_lists_of_tuples(self):
        kinds = [(k, kind) for k in (-1, 0, 1) for kind in range(-1, 9)]
        for many in (0, 1, 2):
            for found in product(kinds, repeat=many):
                right = all(k >= 0 and kind in KINDS for k, kind in found) and list(found) == sorted(found)
                self.assertIs(is_pieces(list(found)), right, found)

    def test_at_most_six_unknowns_together(self):
        for squares in range(8):
            for pairs in range(5):
                value = sorted([(1, 5)] * squares + [(1, 2)] * pairs)
                self.assertIs(is_pieces(value), squares + 2 * pairs <= 6)

    def test_their_order_and_their_scales(self):
        self.assertIs(is_pieces([(0, 7), (1, 0)]), True)
        self.assertIs(is_pieces([(1, 0), (0, 7)]), False)
        self.assertIs(is_pieces([(0, 1), (0, 1)]), True)
        self.assertIs(is_pieces([(9, 1), (10, 1)]), True)
        self.assertIs(is_pieces([(1000, 7)]), True)
        self.assertIs(is_pieces([(1001, 7), (10 ** 29, 2)]), True)


class Sums(unittest.TestCase):

    def test_unknowns(self):
        for pieces in small_pieces(2, 3):
            self.assertEqual(unknowns_of(pieces), many_unknowns(pieces))

    def test_the_form_of_one_piece(self):
        for k in (0, 1, 5, 1000):
            for kind in (1, 3, 5, 7):
                self.assertEqual(sum_of([(k, kind)], 1), [[2 ** k * kind]])
            self.assertEqual(sum_of([(k, 0)], 2), [[0, 2 ** k], [2 ** k, 0]])
            self.assertEqual(sum_of([(k, 2)], 2), [[2 ** k * 2, 2 ** k], [2 ** k, 2 ** k * 2]])

    def test_the_value_is_the_sum_of_the_values_of_the_pieces(self):
        numbers = Numbers(61)
        for pieces in small_pieces(2, 3):
            least = max(1, many_unknowns(pieces))
            size = numbers.between(least, 6)
            form = sum_of(pieces, size)
            self.assertTrue(is_form(form))
            self.assertEqual(len(form), size)
            words = numbers.words(16, size)
            total, at = 0, 0
            for k, kind in pieces:
                many = 2 if kind in (0, 2) else 1
                total += piece_value(k, kind, words[at:at + many])
                at += many
            self.assertEqual(slow_value(16, form, words), total % 2 ** 16)

    def test_unknowns_that_stand_nowhere_are_behind(self):
        self.assertEqual(sum_of([], 1), [[0]])
        self.assertEqual(sum_of([], 6), [[0] * 6] * 6)
        self.assertEqual(sum_of([(1, 1)], 3), [[2, 0, 0], [0, 0, 0], [0, 0, 0]])
        self.assertEqual(sum_of([(0, 0), (0, 1)], 4), [[0, 1, 0, 0], [1, 0, 0, 0], [0, 0, 1, 0], [0, 0, 0, 0]])


class Cut(unittest.TestCase):

    def test_small_pieces_at_small_widths(self):
        for width in range(1, 5):
            for pieces in small_pieces(5, 2):
                self.assertEqual(cut(width, pieces), slow_cut(width, pieces), (width, pieces))

    def test_many_pieces(self):
        numbers = Numbers(62)
        for _ in range(2000):
            width = numbers.between(1, 64)
            pieces = numbers.pieces(6, numbers.one_of((3, 8, width + 2, 1001)))
            left = cut(width, pieces)
            self.assertEqual(left, slow_cut(width, pieces))
            self.assertTrue(is_pieces(left))
            self.assertEqual(cut(width, left), left)

    def test_bounds(self):
        for width in (1, 2, 3, 63, 64):
            self.assertEqual(cut(width, [(width - 1, 7)]), [(width - 1, 1)])
            self.assertEqual(cut(width, [(width, 7)]), [])
            self.assertEqual(cut(width, [(width - 1, 0), (width - 1, 2)]), [])
            if width > 1:
                self.assertEqual(cut(width, [(width - 2, 0), (width - 2, 2), (width - 2, 7)]),
                                 [(width - 2, 0), (width - 2, 2), (width - 2, 3)])
            if width > 2:
                self.assertEqual(cut(width, [(width - 3, 7)]), [(width - 3, 7)])

    def test_what_is_left_is_put_in_order(self):
        self.assertEqual(cut(2, [(0, 3), (0, 5)]), [(0, 1), (0, 3)])
        self.assertEqual(cut(3, [(1, 2), (1, 3), (1, 5)]), [(1, 1), (1, 2), (1, 3)])

    def test_the_sums_are_alike_there(self):
        numbers = Numbers(63)
        for _ in range(500):
            width = numbers.between(1, 6)
            pieces = numbers.pieces(6, width + 2)
            left, places, gone, at = [], [], [], 0
            for k, kind in pieces:
                many = 2 if kind in (0, 2) else 1
                rest = slow_cut(width, [(k, kind)])
                if rest:
                    left.append((rest[0], list(range(at, at + many))))
                else:
                    gone.extend(range(at, at + many))
                at += many
            places = [place for _, some in sorted(left) for place in some] + gone
            size = max(1, at)
            places = places or [0]
            change = [[int(places[j] == i) for j in range(size)] for i in range(size)]
            there = slow_table(width, slow_changed(sum_of(pieces, size), change))
            self.assertEqual(there, table_of(width, sum_of(cut(width, pieces), size)))


class Times(unittest.TestCase):

    def test_small_pieces_and_numbers(self):
        for pieces in small_pieces(2, 2):
            for number in range(-20, 21):
                if number:
                    many, odd = 0, number
                    while odd % 2 == 0:
                        many, odd = many + 1, odd // 2
                    expected = sorted((k + many, kind * odd % 8 if kind % 2 else kind) for k, kind in pieces)
                    self.assertEqual(times(pieces, number), expected)

    def test_the_form_multiplied_falls_into_them(self):
        numbers = Numbers(64)
        for _ in range(1000):
            pieces = numbers.pieces(6, 10)
            number = numbers.one_of((-1, 1)) * numbers.between(1, numbers.one_of((9, 10 ** 30 - 1)))
            form = sum_of(pieces, 6)
            self.assertEqual(pieces_of(form), pieces)
            self.assertEqual(pieces_of([[item * number for item in row] for row in form]), times(pieces, number))

    def test_twice_is_once_by_the_product(self):
        numbers = Numbers(65)
        for _ in range(300):
            pieces = numbers.pieces(6, 1001)
            one, other = numbers.between(1, 500), -numbers.between(1, 500)
            self.assertEqual(times(times(pieces, one), other), times(pieces, one * other))
            self.assertTrue(is_pieces(times(pieces, one)))

    def test_written_ones(self):
        self.assertEqual(times([], 5), [])
        self.assertEqual(times([(0, 1), (0, 3)], 3), [(0, 1), (0, 3)])
        self.assertEqual(times([(0, 1), (0, 5)], -1), [(0, 3), (0, 7)])
        self.assertEqual(times([(1, 0), (1, 2)], -8), [(4, 0), (4, 2)])


class Together(unittest.TestCase):

    def test_small_pieces(self):
        some = [pieces for pieces in small_pieces(2, 2) if many_unknowns(pieces) <= 3]
        for one, other in product(some, some):
            both = together(one, other)
            self.assertEqual(both, sorted(one + other))
            self.assertEqual(unknowns_of(both), unknowns_of(one) + unknowns_of(other))

    def test_with_nothing(self):
        self.assertEqual([together([], []), together([(0, 1)], []), together([], [(0, 1)])], [[], [(0, 1)], [(0, 1)]])


class SmallWords(unittest.TestCase):

    def test_values_of_pairs_at_all_words(self):
        for kind in (0, 2):
            for k in range(3):
                for words in all_words(3, 2):
                    value = piece_value(k, kind, words) % 8
                    self.assertEqual(slow_value(3, sum_of([(k, kind)], 2), words), value)


if __name__ == "__main__":
    unittest.main()
