"""Points 27 and 28: written changes."""

import unittest
from itertools import product

from tests.helpers import Numbers, rows_of, slow_changed, slow_determinant, slow_pieces_of, slow_symbol
from wordsquares.forms import is_change
from wordsquares.relations import pair_beside_square, pairs_turned, square_beside_pair, squares_turned

GREAT = 10 ** 30 - 1
ODD = (1, 3, 5, 7, -1, -3, 9, 2 ** 60 + 1, GREAT, -GREAT)


def blocks(*forms):
    """The form of the unknowns of some forms, one behind the other."""
    size = sum(len(form) for form in forms)
    rows, at = [[0] * size for _ in range(size)], 0
    for form in forms:
        for i, row in enumerate(form):
            rows[at + i][at:at + len(form)] = row
        at += len(form)
    return rows


def pair_rows(k, kind):
    return rows_of([(k, kind)], 2)


def cut_out(form, places):
    return [[form[i][j] for j in places] for i in places]


class SquaresTurned(unittest.TestCase):

    def assert_told(self, low, one, high, other, number):
        change, first, second = squares_turned(low, one, high, other, number)
        self.assertTrue(is_change(change))
        self.assertEqual(change, [[1, -2 ** (high - low) * other * number], [number, one]])
        self.assertEqual(first, one + 2 ** (high - low) * other * number * number)
        self.assertEqual(second, one * other * first)
        self.assertEqual(first % 2 + second % 2, 2)
        form = blocks([[2 ** low * one]], [[2 ** high * other]])
        self.assertEqual(slow_changed(form, change), blocks([[2 ** low * first]], [[2 ** high * second]]))

    def test_small_ones(self):
        for low, more in product((0, 1, 5), range(4)):
            for one, other, number in product(ODD[:7], ODD[:7], range(-3, 4)):
                if more or number % 2 == 0:
                    self.assert_told(low, one, low + more, other, number)

    def test_great_ones(self):
        numbers = Numbers(701)
        for _ in range(500):
            low = numbers.one_of((0, 1, 30, 63, 64))
            high = numbers.between(low, 64)
            number = numbers.between(-GREAT, GREAT)
            one, other = [2 * numbers.between(-GREAT // 2, GREAT // 2) + 1 for _ in range(2)]
            self.assert_told(low, one, high, other, number - number % 2 if low == high else number)
        for one, other in product(ODD, ODD):
            self.assert_told(0, one, 64, other, GREAT)
            self.assert_told(64, one, 64, other, 1 - GREAT)

    def test_kinds_by_8(self):
        for one, other in product((1, 3, 5, 7), repeat=2):
            for more in (1, 2):
                _, first, second = squares_turned(3, one, 3 + more, other, 1)
                kind = (one + 2 ** more * other) % 8
                self.assertEqual((first % 8, second % 8), (kind, one * other * kind % 8))
            _, first, second = squares_turned(0, one, 0, other, 2)
            self.assertEqual((first % 8, second % 8), ((one + 4) % 8, (other + 4) % 8))


class SquareAndPair(unittest.TestCase):

    def assert_leads(self, start, told, columns):
        self.assertIs(type(told), tuple)
        change, form = told
        self.assertEqual([[row[at] for row in change] for at in range(len(change))], columns)
        self.assertEqual(slow_determinant(change) % 2, 1)
        self.assertEqual(slow_changed(start, change), form)

    def assert_square_first(self, low, one, high, kind):
        t, a = 2 ** (high - low), one
        columns = [[1, 1, 1], [-t, a, 0], [-t, 0, a]] if kind == 0 else [[1, 1, 0], [-t, 0, a], [-2 * t, a, 0]]
        told = square_beside_pair(low, one, high, kind)
        start = blocks([[2 ** low * one]], pair_rows(high, kind))
        self.assert_leads(start, told, columns)
        form = told[1]
        self.assertEqual([form[0][1], form[0][2]], [0, 0])
        self.assertEqual(slow_symbol(slow_pieces_of(form), 3), slow_symbol(slow_pieces_of(start), 3))
        if high == low + 1:
            self.assertEqual(slow_pieces_of(cut_out(form, [0])), [(low, 5 * one % 8)])
            self.assertEqual(slow_pieces_of(cut_out(form, [1, 2])), [(high, 2 - kind)])

    def assert_pair_first(self, low, kind, high, one):
        t, a = 2 ** (high - low), one
        columns = [[1, 0, 1], [0, 1, 1], [-t * a, -t * a, 1 if kind == 0 else 3]]
        told = pair_beside_square(low, kind, high, one)
        start = blocks(pair_rows(low, kind), [[2 ** high * one]])
        self.assert_leads(start, told, columns)
        form = told[1]
        self.assertEqual([form[2][0], form[2][1]], [0, 0])
        self.assertEqual(slow_symbol(slow_pieces_of(form), 3), slow_symbol(slow_pieces_of(start), 3))
        if high == low + 1:
            self.assertEqual(slow_pieces_of(cut_out(form, [2])), [(high, 5 * one % 8)])
            self.assertEqual(slow_pieces_of(cut_out(form, [0, 1])), [(low, 2 - kind)])

    def test_all_scales_near_together(self):
        for low, more, one, kind in product((0, 1, 7), range(5), ODD, (0, 2)):
            self.assert_square_first(low, one, low + more, kind)
            if more:
                self.assert_pair_first(low, kind, low + more, one)

    def test_the_greatest_scales(self):
        for one, kind in product(ODD, (0, 2)):
            for low in (0, 63):
                self.assert_square_first(low, one, 64, kind)
                self.assert_pair_first(low, kind, 64, one)
            self.assert_square_first(64, one, 64, kind)

    def test_written_ones(self):
        self.assertEqual(square_beside_pair(1, 3, 1, 2), (
            [[1, -1, -2], [1, 0, 3], [0, 3, 0]], [[10, 0, 0], [0, 42, 30], [0, 30, 60]]))
        self.assertEqual(pair_beside_square(0, 2, 2, 1), (
            [[1, 0, -4], [0, 1, -4], [1, 1, 3]], [[6, 5, 0], [5, 6, 0], [0, 0, 132]]))


class PairsTurned(unittest.TestCase):

    def test_all_scales(self):
        for scale in list(range(20)) + [63, 64]:
            change, form = pairs_turned(scale)
            columns = [[1, 0, 1, 0], [0, 1, 0, 0], [-2, 1, 0, 3], [0, 0, 1, -2]]
            self.assertEqual([[row[at] for row in change] for at in range(4)], columns)
            self.assertTrue(is_change(change))
            self.assertEqual(slow_changed(blocks(pair_rows(scale, 2), pair_rows(scale, 2)), change), form)
            self.assertEqual(form, [[item * 2 ** scale for item in row]
                                    for row in blocks([[4, 1], [1, 2]], [[24, -9], [-9, 6]])])
            for places in ([0, 1], [2, 3]):
                self.assertEqual(slow_pieces_of(cut_out(form, places)), [(scale, 0)])


if __name__ == "__main__":
    unittest.main()
