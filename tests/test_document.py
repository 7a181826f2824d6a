"""The written examples of the document, as they stand there."""

import unittest

from wordsquares.alike import alike_at, are_alike, grouped, grouped_at, parting_width
from wordsquares.alternating import is_alternating, is_paired, pair_rungs, paired
from wordsquares.book import FormBook, is_deed
from wordsquares.counts import all_counts, counts_along, how_often, odd_noughts
from wordsquares.forms import beside, changed, determinant, is_change, is_form, joined, moved, parting_words, table_of, undone, value_at
from wordsquares.kept import how_many_alike, how_many_changes, how_many_keep, how_many_tables, is_keeping, keeping, kept_from, settled_width, shares
from wordsquares.leading import all_leading, change_of_steps, is_leading, leading_change, plain_change, steps_of
from wordsquares.lines import line_of, of_line
from wordsquares.parting import equal_counts, is_parting_word, low_scales, parting_sign, parting_word
from wordsquares.parts import common_parts, is_part, is_sure, parts_of, pieces_in, rests
from wordsquares.pieces import cut, is_pieces, sum_of, times, together, unknowns_of
from wordsquares.plain import class_at, class_number, how_many_classes, plain_at
from wordsquares.relations import pair_beside_square, pairs_turned, square_beside_pair, squares_turned
from wordsquares.roads import exchanged, is_road, road
from wordsquares.sheets import are_like, diagonal, is_diagonal, pair_count, silent, rungs, rungs_everywhere
from wordsquares.splits import fewest_twos, is_split, pieces_at, pieces_of, scales_of, split
from wordsquares.symbols import chains_of, is_symbol, pieces_of_symbol, plain_pieces, signs_of, symbol, symbol_of, ways_of

from wordsquares.taken import first_lacking, lacking, lacking_width, odd_nought_width, takes, takes_all
from wordsquares.turns import halves_at, piece_turn, taken_by_turns, turn_sum, turn_table, turns_part, zero_widths


class BehindPoint7(unittest.TestCase):

    def test_examples(self):
        form, change = [[1, 2], [2, 5]], [[1, 3], [0, -1]]
        self.assertEqual(
            [is_form(form), is_form([[1, 2], [3, 5]]), is_form([]), is_form([[True]]), is_change(change), is_change([[2, 1], [0, 1]])],
            [True, False, False, False, True, False])
        self.assertEqual(
            [value_at(3, form, [1, 1]), value_at(3, form, [7, 2]), value_at(64, [[-1]], [1]), table_of(2, [[5, 3], [3, -2]])],
            [2, 5, 18446744073709551615, [[1, 1], [1, 2]]])
        self.assertEqual(
            [parting_words(3, form, [[1, 6], [6, 5]]), parting_words(3, form, [[1, 2], [2, 1]]), parting_words(3, form, [[1, 4], [4, 5]]), parting_words(1, form, [[3, 0], [0, 7]])],
            [None, [0, 1], [1, 1], None])
        self.assertEqual(
            [beside([[3]], form), determinant(change), changed(form, change), moved(3, change, [7, 2]), joined(change, change), undone(3, change)],
            [[[3, 0, 0], [0, 1, 2], [0, 2, 5]], -1, [[1, 1], [1, 2]], [5, 6], [[1, 0], [0, 1]], [[1, 3], [0, 7]]])
        self.assertEqual(
            [value_at(3, changed(form, change), [7, 2]), value_at(3, form, moved(3, change, [7, 2]))],
            [5, 5])


class BehindPoint13(unittest.TestCase):

    def test_examples(self):
        self.assertEqual(
            [is_pieces([(0, 1), (0, 2), (3, 0)]), is_pieces([(1, 1), (0, 1)]), is_pieces([(0, 4)]), unknowns_of([(0, 1), (0, 2), (3, 0)]), sum_of([(0, 2), (2, 3)], 4)],
            [True, False, False, 5, [[2, 1, 0, 0], [1, 2, 0, 0], [0, 0, 12, 0], [0, 0, 0, 0]]])
        self.assertEqual(
            [cut(3, [(0, 5), (1, 7), (2, 0), (2, 5), (3, 1)]), times([(0, 0), (1, 3)], -12), together([(0, 1), (2, 2)], [(0, 0)])],
            [[(0, 5), (1, 3), (2, 1)], [(2, 0), (3, 7)], [(0, 0), (0, 1), (2, 2)]])
        self.assertEqual(
            [pieces_at(5, [[1, 2], [2, 5]]), pieces_at(3, [[-4, -12], [-12, 16]]), pieces_of([[-4, -12], [-12, 16]]), pieces_at(4, [[0, 2, 1], [2, 0, 0], [1, 0, 4]])],
            [[(0, 1), (0, 1)], [(2, 1)], [(2, 5), (2, 7)], [(0, 0)]])
        self.assertEqual(
            [pieces_of([[0, 2, 1], [2, 0, 0], [1, 0, 4]]), pieces_of([[4, 2, 0], [2, 6, 4], [0, 4, 12]]), pieces_of([[1, 1], [1, 1]]), pieces_of([[6, 3], [3, 10]])],
            [[(0, 0), (4, 1)], [(1, 3), (1, 7), (2, 7)], [(0, 1)], [(0, 2)]])
        self.assertEqual(
            [is_split(8, [[6, 3], [3, 10]], ([(0, 2)], [[1, 92], [14, 175]])), is_split(8, [[6, 3], [3, 10]], ([(0, 0)], [[1, 92], [14, 175]])), split(4, [[0, 0], [0, 0]])[0]],
            [True, False, []])
        self.assertEqual(
            [is_split(5, [[1, 2], [2, 5]], split(5, [[1, 2], [2, 5]])), scales_of([[4, 2, 0], [2, 6, 4], [0, 4, 12]]), fewest_twos([[0, 2], [2, 0]]), fewest_twos([[0]])],
            [True, [(1, 2, True), (2, 1, True)], 2, None])


class BehindPoint20(unittest.TestCase):

    def test_examples(self):
        some = [(0, 3), (1, 5), (3, 7)]
        self.assertEqual(
            [signs_of(some), chains_of(some), ways_of(some), ways_of([(0, 0), (1, 2), (3, 0)])],
            [[(0, 1, True, -1), (1, 1, True, -1), (3, 1, True, 1)], [(0, 0), (3, 7)], [(0, 3)], [(0, 0), (1, 1), (3, 3)]])
        self.assertEqual(
            [symbol_of(some, 4), symbol_of([(0, 3), (1, 1), (3, 3)], 4) == symbol_of(some, 4), pieces_of_symbol(symbol_of(some, 3))],
            [([(0, 1, True, 1), (1, 1, True, 1), (3, 1, True, 1)], [(0, 4), (3, 7)], 1), True, [(0, 3), (1, 1), (3, 3)]])
        self.assertEqual(
            [symbol([[0, 1], [1, 0]]), symbol([[0]]), symbol([[5, 0], [0, 5]]) == symbol([[1, 0], [0, 1]]), plain_pieces([[1, 0, 0], [0, 1, 0], [0, 0, 7]])],
            [([(0, 2, False, 1)], [], 0), ([], [], 1), True, [(0, 0), (0, 1)]])
        self.assertEqual(
            [plain_pieces([[2, 1, 0], [1, 2, 0], [0, 0, 6]]), is_symbol(([(0, 1, True, 1)], [(0, 3)], 0)), is_symbol(([(0, 2, False, -1)], [], 0))],
            [[(0, 0), (1, 7)], False, True])
        self.assertEqual(
            [plain_at(4, [[3, 0, 0], [0, 10, 0], [0, 0, 56]]), plain_at(3, [[3, 0, 0], [0, 10, 0], [0, 0, 56]]), plain_at(2, [[7, 0, 0], [0, 7, 0], [0, 0, 7]]), plain_at(1, [[2, 1], [1, 4]])],
            [[(0, 3), (1, 1), (3, 1)], [(0, 3), (1, 1)], [(0, 1), (0, 2)], []])
        self.assertEqual(
            [[how_many_classes(width, size) for width in [1, 2, 3]] for size in [1, 2, 3]],
            [[2, 4, 8], [2, 10, 28], [2, 16, 62]])
        self.assertEqual(
            [class_at(2, 2, 4), class_number(2, [[3, 0], [0, 1]]), class_at(3, 1, 7), class_number(3, [[0]])],
            [[(0, 1), (0, 3)], 4, [(2, 1)], 0])


class BehindPoint26(unittest.TestCase):

    def test_examples(self):
        two, pair, twist = [[1, 0], [0, 1]], [[0, 1], [1, 0]], [[2, 1], [1, 2]]
        top, low = [[0, 1, 0], [1, 0, 0], [0, 0, 2]], [[0, 0, 0], [0, 0, 0], [0, 0, 2]]
        self.assertEqual(
            [are_alike(two, [[5, 0], [0, 5]]), are_alike(two, [[3, 0], [0, 3]]), alike_at(1, two, [[3, 0], [0, 3]]), alike_at(2, two, [[3, 0], [0, 3]]), are_alike([[1, 0], [0, 2]], [[3, 0], [0, 6]])],
            [True, False, True, False, True])
        self.assertEqual(
            [parting_width(two, [[3, 0], [0, 3]]), parting_width(two, pair), parting_width(pair, twist), parting_width(top, low), parting_width(two, two)],
            [2, 1, 2, 2, None])
        self.assertEqual(
            [grouped([two, pair, [[5, 0], [0, 5]], twist]), grouped_at(1, [two, pair, [[5, 0], [0, 5]], twist]), grouped([])],
            [[[0, 2], [1], [3]], [[0, 2], [1, 3]], []])
        self.assertEqual(
            [parting_sign(two, [[3, 0], [0, 3]]), parting_sign(pair, twist), parting_sign(two, pair), parting_sign([[1, 0], [0, 2]], [[1, 0], [0, 4]])],
            [('sum', 0, 2, 6), ('sign', 0, 1, -1), ('odd', 0, True, False), ('unknowns', 1, 1, 0)])
        self.assertEqual(
            [parting_word(two, [[3, 0], [0, 3]]), parting_word(two, pair), parting_word(top, low), is_parting_word(two, pair, (1, 1, 2, 0)), is_parting_word(two, pair, (1, 1, 2, 1))],
            [(2, 1, 8, 0), (1, 0, 2, 4), (3, 0, 160, 256), True, False])
        self.assertEqual(
            [equal_counts(2, top, low), low_scales(2, top), low_scales(2, low), equal_counts(3, top, low), low_scales(4, [[1, 2], [2, 6]])],
            [True, [(0, 2)], [], False, [(0, 1), (1, 1)]])
        lone, mate = [[1, 0, 0, 0, 0], [0, 2, 0, 0, 0], [0, 0, 2, 0, 0], [0, 0, 0, 2, 0], [0, 0, 0, 0, 4]], [[1, 0, 0, 0, 0], [0, 1, 0, 0, 0], [0, 0, 2, 0, 0], [0, 0, 0, 4, 0], [0, 0, 0, 0, 4]]
        self.assertEqual(
            [are_alike(lone, mate), parting_word(lone, mate), parting_width(lone, mate), parting_sign(lone, mate)],
            [False, None, 2, ('unknowns', 0, 1, 2)])


class BehindPoint33(unittest.TestCase):

    def test_examples(self):
        self.assertEqual(
            [squares_turned(0, 1, 1, 1, 1), squares_turned(0, 1, 0, 3, 2), squares_turned(1, 5, 4, 7, 0)],
            [([[1, -2], [1, 1]], 3, 3), ([[1, -6], [2, 1]], 13, 39), ([[1, 0], [0, 5]], 5, 175)])
        self.assertEqual(
            square_beside_pair(0, 1, 1, 0),
            ([[1, -2, -2], [1, 1, 0], [1, 0, 1]], [[5, 0, 0], [0, 4, 6], [0, 6, 4]]))
        self.assertEqual(
            pair_beside_square(0, 0, 1, 1),
            ([[1, 0, -2], [0, 1, -2], [1, 1, 1]], [[2, 3, 0], [3, 2, 0], [0, 0, 10]]))
        self.assertEqual(
            pairs_turned(0)[1],
            [[4, 1, 0, 0], [1, 2, 0, 0], [0, 0, 24, -9], [0, 0, -9, 6]])
        self.assertEqual(
            [exchanged([(0, 1), (1, 1)]), exchanged([(0, 1), (0, 1)]), exchanged([(0, 0), (0, 1)]), exchanged([(2, 2), (2, 2)]), exchanged([(0, 7)])],
            [[[(0, 3), (1, 3)]], [[(0, 5), (0, 5)]], [[(0, 1), (0, 1), (0, 7)], [(0, 1), (0, 3), (0, 5)], [(0, 5), (0, 5), (0, 7)]], [[(2, 0), (2, 0)]], []])
        self.assertEqual(
            [road([(0, 1), (1, 1)], [(0, 3), (1, 3)]), road([(0, 1)], [(0, 3)]), road([], []), is_road([(0, 1)], [(0, 1)], [[(0, 1)]])],
            [[[(0, 1), (1, 1)], [(0, 3), (1, 3)]], None, [[]], True])
        self.assertEqual(
            [change_of_steps(3, 2, [("add", 0, 1, 2), ("times", 1, 3)]), change_of_steps(3, 1, []), change_of_steps(3, 2, steps_of(3, [[3, 2], [8, -1]]))],
            [[[1, 6], [0, 3]], [[1]], [[3, 2], [0, 7]]])
        low, high = [[1, 0], [0, 2]], [[3, 0], [0, 6]]
        self.assertEqual(
            [is_leading(9, low, high, [[1, -2], [1, 1]]), is_leading(9, low, high, [[1, 0], [0, 1]]), is_leading(9, low, high, leading_change(9, low, high))],
            [True, False, True])
        self.assertEqual(
            [plain_change(9, high)[0], plain_change(9, [[0, 0], [0, 0]])[0], all_leading(3, [[1]], [[9]]), all_leading(2, [[1]], [[3]])],
            [[(0, 1), (1, 1)], [], [[[1]], [[3]], [[5]], [[7]]], []])


class BehindPoint39(unittest.TestCase):

    def test_examples(self):
        one, two, pair = [[1]], [[1, 0], [0, 1]], [[0, 1], [1, 0]]
        three, four = [[1, 0, 0], [0, 1, 0], [0, 0, 1]], [[1, 0, 0, 0], [0, 1, 0, 0], [0, 0, 1, 0], [0, 0, 0, 1]]
        self.assertEqual(
            [how_often(3, one, 1), all_counts(3, one), all_counts(2, two), all_counts(2, pair), how_often(64, one, 1)],
            [4, [2, 4, 0, 0, 2, 0, 0, 0], [4, 8, 4, 0], [12, 0, 4, 0], 4])
        self.assertEqual(
            [counts_along(one, 4, 6), counts_along(pair, 3, 2), odd_noughts(3, pair), odd_noughts(2, two), odd_noughts(1, [[0]])],
            [[1, 2, 2, 4, 8, 8], [0, 0], 16, 0, 1])
        self.assertEqual(
            [takes(3, three, 7), lacking(5, three), lacking(3, pair), lacking_width(three, 28), lacking_width(three, 5)],
            [False, [(0, 7), (2, 7)], [(0, 1), (0, 3), (0, 5), (0, 7)], 5, None])
        self.assertEqual(
            [takes_all(four), takes_all(three), first_lacking(three), first_lacking(pair), odd_nought_width(two), odd_nought_width(pair), odd_nought_width([[1, 0], [0, 7]])],
            [True, False, (3, 7), (1, 1), 2, None, None])


class BehindPoint44(unittest.TestCase):

    def test_examples(self):
        pair, other_pair = [[0, 1], [1, 0]], [[2, 1], [1, 2]]
        self.assertEqual(
            [turn_sum(3, [[1]], 1), turn_sum(1, [[1]], 1), turn_sum(2, [[3]], 1), turn_sum(2, pair, 1), turn_sum(2, other_pair, 1), turn_sum(3, [[1]], 2), turn_sum(3, [[1, 0], [0, 7]], 1)],
            [(1, 4), None, (7, 3), (0, 6), (4, 6), (1, 5), (0, 8)])
        self.assertEqual(
            [turn_sum(3, [[1]], 0), turn_sum(3, [[1]], -7), turn_sum(3, [[1, 0], [0, 0]], 1), piece_turn(3, (1, 5), 1), piece_turn(64, (0, 2), 3), piece_turn(2, (5, 7), 1)],
            [(0, 6), (1, 4), (1, 10), (1, 5), (4, 130), (0, 4)])
        self.assertEqual(
            [turn_table(2, [[1]]), taken_by_turns(2, [[1]]), taken_by_turns(2, [[1, 0], [0, 1]]), taken_by_turns(1, pair)],
            [[[None, None, None, None], [(1, 3), (7, 3), (1, 3), (7, 3)]], [2, 2, 0, 0], [4, 8, 4, 0], [4, 0]])
        self.assertEqual(
            [turns_part([[1]], [[5]]), turns_part(pair, other_pair), turns_part([[1, 0], [0, 1]], [[5, 0], [0, 5]]), turns_part([[0]], [[2 ** 70]])],
            [(3, 1), (2, 1), None, (71, 1)])
        self.assertEqual(
            [halves_at(3, [[1, 0], [0, 4]]), halves_at(2, pair), zero_widths([[1, 0], [0, 4]]), zero_widths(pair)],
            [10, 6, [1, 3], []])


class BehindPoint49(unittest.TestCase):

    def test_examples(self):
        mixed, two = [[0, 1, 0], [1, 0, 0], [0, 0, 1]], [[1, 0], [0, 2]]
        self.assertEqual(
            [rests(mixed, [[1]]), rests(mixed, [[0, 1], [1, 0]]), rests(mixed, [[2, 1], [1, 2]]), rests(two, [[3]]), rests([[1]], [[9]]), rests([[1]], [[3]])],
            [[[(0, 0)], [(0, 1), (0, 7)]], [[(0, 1)]], [], [[(1, 3)]], [[]], []])
        self.assertEqual(
            [is_part([[1, 0], [0, 1]], [[5]]), is_part([[1, 0], [0, 1]], [[3]]), is_part([[0, 0], [0, 1]], [[0]]), is_sure(mixed, [[1]]), is_sure(mixed, [[0, 1], [1, 0]])],
            [True, False, True, False, True])
        self.assertEqual(
            [pieces_in(two), pieces_in(mixed), pieces_in([[1, 0], [0, 1]]), pieces_in([[0]])],
            [[(0, 1), (0, 3), (1, 1), (1, 3)], [(0, 0), (0, 1), (0, 3), (0, 5), (0, 7)], [(0, 1), (0, 5)], []])
        self.assertEqual(
            [parts_of(mixed, 2), parts_of([[1, 0, 0], [0, 1, 0], [0, 0, 0]], 1), parts_of(two, 2)],
            [[[(0, 0)], [(0, 1), (0, 1)], [(0, 1), (0, 3)], [(0, 1), (0, 5)], [(0, 1), (0, 7)]], [[], [(0, 1)], [(0, 5)]], [[(0, 1), (1, 1)]]])
        self.assertEqual(
            [common_parts(two, [[3, 0], [0, 3]]), common_parts([[1]], [[3]]), common_parts(mixed, [[0, 1], [1, 0]])],
            [[[(0, 3)]], None, [[(0, 0)]]])


class BehindPoint53(unittest.TestCase):

    def test_examples(self):
        two, pair, twist = [[1, 0], [0, 1]], [[0, 1], [1, 0]], [[2, 1], [1, 2]]
        self.assertEqual(
            [how_many_changes(3, 1), how_many_changes(1, 2), how_many_changes(2, 3), how_many_tables(3, 2), how_many_tables(1, 6)],
            [4, 6, 86016, 256, 64])
        self.assertEqual(
            [how_many_keep(3, [[1]]), how_many_keep(1, pair), how_many_keep(3, two), how_many_keep(3, pair), how_many_alike(3, two), how_many_alike(2, [[0, 0], [0, 0]])],
            [4, 6, 128, 64, 12, 1])
        self.assertEqual(
            [keeping(2, [[1]]), keeping(3, [[2]]), keeping(1, two), is_keeping(3, two, [[0, 9], [-1, 0]]), is_keeping(3, two, [[1, 1], [0, 1]])],
            [[[[1]], [[3]]], [[[1]], [[3]], [[5]], [[7]]], [[[0, 1], [1, 0]], [[1, 0], [0, 1]]], True, False])
        self.assertEqual(
            [settled_width([[4]]), kept_from([[4]]), kept_from(twist), kept_from([[1, 0], [0, 2]]), settled_width([[1, 1], [1, 1]]), kept_from([[0, 0], [0, 0]])],
            [5, (5, 16), (3, 192), (4, 512), None, None])
        self.assertEqual(
            [shares([[1]]), shares(pair), shares(twist), shares([[1, 0], [0, 2]])],
            [[(-1, 1, 2), (0, 1, 1), (1, 1, 2)], [(-1, 1, 1), (0, 1, 1), (1, 1, 1)], [(-1, 1, 1), (0, 1, 3), (1, 1, 1)], [(-1, 1, 2), (0, 1, 2), (1, 1, 2), (2, 1, 2)]])


class BehindPoint57(unittest.TestCase):

    def test_examples(self):
        sheet, flat = [[2, 4], [6, 0]], [[1, 2, 3], [4, 5, 6]]
        self.assertEqual(
            [rungs(3, sheet), rungs(2, sheet), rungs_everywhere(sheet), rungs_everywhere(flat), rungs(5, [[0, 0]]), are_like(2, sheet, [[0, 2], [0, 0]])],
            [[1, 2], [1], [1, 2], [0, 0], [], True])
        self.assertEqual(
            [is_diagonal(1, [[0, 1]], ([[1]], [[0, 1], [1, 0]])), is_diagonal(1, [[0, 1]], ([[1]], [[1, 0], [0, 1]]))],
            [True, False])
        self.assertEqual(
            [pair_count(1, [[1]], 1), pair_count(1, [[1]], 0), pair_count(2, [[2]], 2), silent(3, sheet), silent(2, [[1], [1]])],
            [1, 3, 4, 8, 4])
        self.assertEqual(
            [is_alternating(2, [[0, 1], [3, 0]]), is_alternating(2, [[2, 1], [3, 0]]), pair_rungs(3, [[0, 2], [6, 0]]), is_paired(3, [[0, 6], [2, 0]], [[1, 0], [0, 3]]), is_paired(3, [[0, 6], [2, 0]], [[1, 0], [0, 1]])],
            [True, False, [1], True, False])
        # These two are imported there, too, but have any result.
        self.assertIs(is_diagonal(3, sheet, diagonal(3, sheet)), True)
        self.assertIs(is_paired(3, [[0, 6], [2, 0]], paired(3, [[0, 6], [2, 0]])), True)


class BehindPoint61(unittest.TestCase):

    def test_examples(self):
        self.assertEqual(
            [line_of(3, [[1, 2], [2, 5]]), line_of(64, [[-7]]), of_line("5:0,0,-1;2,0;9"), of_line("1:0")],
            ["3:1,2;5", "64:-7", (5, [[0, 0, -1], [0, 2, 0], [-1, 0, 9]]), (1, [[0]])])
        book = FormBook(3, [[1, 2], [2, 5]])
        self.assertEqual(
            [is_deed(book, ("change", [[1, 3], [0, -1]])), is_deed(book, ("change", [[2]])), is_deed(book, ("only", [1, 0])), book.value([7, 2])],
            [True, False, False, 5])
        book.do(("change", [[1, -2], [0, 1]]))
        self.assertEqual(
            [book.form(), book.log(), book.alike(FormBook(3, [[1, 0], [0, 1]])), book.alike(FormBook(3, [[1, 0], [0, 3]]))],
            [[[1, 0], [0, 1]], [("change", [[1, -2], [0, 1]])], True, False])
        book.undo()
        book.do(("beside", [[4]]))
        book.do(("only", [0, 2]))
        book.do(("width", 2))
        self.assertEqual(
            [book.form(), book.width(), len(book.log()), book == book.copy()],
            [[[1, 0], [0, 4]], 2, 3, True])


if __name__ == "__main__":
    unittest.main()
