"""The written examples of the document, as they stand there."""

import unittest

from wordsquares.forms import beside, changed, determinant, is_change, is_form, joined, moved, parting_words, table_of, undone, value_at
from wordsquares.pieces import cut, is_pieces, sum_of, times, together, unknowns_of
from wordsquares.splits import fewest_twos, is_split, pieces_at, pieces_of, scales_of, split


class BehindPoint7(unittest.TestCase):

    def test_examples(self):
        form, change = [[1, 2], [2, 5]], [[1, 3], [0, -1]]
        self.assertEqual(
            [is_form(form), is_form([[1, 2], [3, 5]]), is_form([]), is_form([[True]]), is_change(change), is_change([[2, 1], [0, 1]])],
            [True, False, False, False, True, False])
        self.assertEqual(
            [value_at(3, form, [1, 1]), value_at(3, form, [7, 2]), value_at(64, [[-1]], [1]), table_of(2, [[5, 3], [3, -2]])],
            [2, 5, 18446744073709551615, [[1, 1], [1, 2]]])
        self.assertEqual(
            [parting_words(3, form, [[1, 6], [6, 5]]), parting_words(3, form, [[1, 2], [2, 1]]), parting_words(3, form, [[1, 4], [4, 5]]), parting_words(1, form, [[3, 0], [0, 7]])],
            [None, [0, 1], [1, 1], None])
        self.assertEqual(
            [beside([[3]], form), determinant(change), changed(form, change), moved(3, change, [7, 2]), joined(change, change), undone(3, change)],
            [[[3, 0, 0], [0, 1, 2], [0, 2, 5]], -1, [[1, 1], [1, 2]], [5, 6], [[1, 0], [0, 1]], [[1, 3], [0, 7]]])
        self.assertEqual(
            [value_at(3, changed(form, change), [7, 2]), value_at(3, form, moved(3, change, [7, 2]))],
            [5, 5])


class BehindPoint13(unittest.TestCase):

    def test_examples(self):
        self.assertEqual(
            [is_pieces([(0, 1), (0, 2), (3, 0)]), is_pieces([(1, 1), (0, 1)]), is_pieces([(0, 4)]), unknowns_of([(0, 1), (0, 2), (3, 0)]), sum_of([(0, 2), (2, 3)], 4)],
            [True, False, False, 5, [[2, 1, 0, 0], [1, 2, 0, 0], [0, 0, 12, 0], [0, 0, 0, 0]]])
        self.assertEqual(
            [cut(3, [(0, 5), (1, 7), (2, 0), (2, 5), (3, 1)]), times([(0, 0), (1, 3)], -12), together([(0, 1), (2, 2)], [(0, 0)])],
            [[(0, 5), (1, 3), (2, 1)], [(2, 0), (3, 7)], [(0, 0), (0, 1), (2, 2)]])
        self.assertEqual(
            [pieces_at(5, [[1, 2], [2, 5]]), pieces_at(3, [[-4, -12], [-12, 16]]), pieces_of([[-4, -12], [-12, 16]]), pieces_at(4, [[0, 2, 1], [2, 0, 0], [1, 0, 4]])],
            [[(0, 1), (0, 1)], [(2, 1)], [(2, 5), (2, 7)], [(0, 0)]])
        self.assertEqual(
            [pieces_of([[0, 2, 1], [2, 0, 0], [1, 0, 4]]), pieces_of([[4, 2, 0], [2, 6, 4], [0, 4, 12]]), pieces_of([[1, 1], [1, 1]]), pieces_of([[6, 3], [3, 10]])],
            [[(0, 0), (4, 1)], [(1, 3), (1, 7), (2, 7)], [(0, 1)], [(0, 2)]])
        self.assertEqual(
            [is_split(8, [[6, 3], [3, 10]], ([(0, 2)], [[1, 92], [14, 175]])), is_split(8, [[6, 3], [3, 10]], ([(0, 0)], [[1, 92], [14, 175]])), split(4, [[0, 0], [0, 0]])[0]],
            [True, False, []])
        self.assertEqual(
            [is_split(5, [[1, 2], [2, 5]], split(5, [[1, 2], [2, 5]])), scales_of([[4, 2, 0], [2, 6, 4], [0, 4, 12]]), fewest_twos([[0, 2], [2, 0]]), fewest_twos([[0]])],
            [True, [(1, 2, True), (2, 1, True)], 2, None])


if __name__ == "__main__":
    unittest.main()
