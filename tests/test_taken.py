"""Points 37 to 39: which words are taken at all."""

import unittest

from tests.helpers import (
    Numbers, all_words, pieces_up_to, rows_of, settled, slow_changed, slow_counts, slow_determinant, slow_value, small_forms,
    small_tables, unknowns_in,
)
from wordsquares.counts import all_counts, how_often, odd_noughts
from wordsquares.taken import first_lacking, lacking, lacking_width, odd_nought_width, takes, takes_all

GREAT = 10 ** 30 - 1
SMALL = ((1, 1), (2, 1), (3, 1), (5, 1), (7, 1), (1, 2), (2, 2), (3, 2), (1, 3), (2, 3), (1, 4))


def many_forms(many, seed, scales=(2, 5, 9)):
    numbers = Numbers(seed)
    for at in range(many):
        size = at % 6 + 1
        if at % 3:
            yield slow_changed(rows_of(numbers.pieces(size, numbers.one_of(scales)), size), numbers.change(size, 2))
        else:
            yield numbers.form(size, numbers.one_of((1, 7, 2 ** 40, GREAT)))


def lot_of(width, word):
    """The lot of a word that is not 0, by the words of point 37."""
    twos = 0
    while word % 2 == 0:
        twos, word = twos + 1, word // 2
    return twos, word % min(8, 2 ** (width - twos))


class Takes(unittest.TestCase):

    def test_just_where_going_through_all_lists_of_words_finds_it(self):
        for width, size in SMALL:
            for table in small_tables(width, size):
                expected = [many > 0 for many in slow_counts(width, table)]
                self.assertEqual([takes(width, table, word) for word in range(2 ** width)], expected, (width, table))

    def test_it_is_whether_it_is_taken_often(self):
        numbers = Numbers(701)
        for form in many_forms(150, 702):
            for width in (1, 4, 17, 64):
                word = numbers.below(2 ** width) >> numbers.below(width)
                self.assertIs(takes(width, form, word), how_often(width, form, word) > 0)
                self.assertIs(takes(width, form, 0), True)

    def test_the_greatest_words(self):
        top = 2 ** 64
        self.assertEqual([takes(64, [[1]], word) for word in (0, 1, 4, 9, 17, 2, 8, top - 1, top - 7)],
                         [True, True, True, True, True, False, False, False, True])
        self.assertEqual([takes(64, [[2 ** 63]], word) for word in (0, 1, 2 ** 63, 2 ** 62)], [True, False, True, False])


class Lots(unittest.TestCase):

    def test_a_lots_words_are_lacking_all_together_or_not_at_all(self):
        for width, size in SMALL:
            for table in small_tables(width, size):
                counts = slow_counts(width, table)
                lots = {}
                for word in range(1, 2 ** width):
                    lots.setdefault(lot_of(width, word), set()).add(counts[word] > 0)
                self.assertTrue(all(len(found) == 1 for found in lots.values()), (width, table))
                self.assertEqual(lacking(width, table), sorted(lot for lot, found in lots.items() if found == {False}))

    def test_greater_widths(self):
        for form in many_forms(120, 711):
            for width in (4, 7, 10):
                counts = all_counts(width, form)
                expected = sorted({lot_of(width, word) for word in range(1, 2 ** width) if counts[word] == 0})
                self.assertEqual(lacking(width, form), expected)

    def test_any_word_of_a_lot(self):
        numbers = Numbers(712)
        for form in many_forms(150, 713):
            for width in (5, 40, 64):
                found = lacking(width, form)
                self.assertEqual(found, sorted(set(found)))
                for _ in range(5):
                    word = numbers.between(1, 2 ** width - 1) >> numbers.below(width) or 1
                    self.assertIs(takes(width, form, word), lot_of(width, word) not in found)

    def test_all_lots_there_are(self):
        for width in range(1, 65):
            size = 1 if width == 1 else 4 * width - 5 if width > 2 else 3
            self.assertEqual(len(lacking(width, [[0]])), size)
            self.assertTrue(all(0 <= twos < width and odd % 2 and 0 < odd < min(8, 2 ** (width - twos))
                                for twos, odd in lacking(width, [[0] * 6] * 6)))
        self.assertEqual(lacking(1, [[0]]), [(0, 1)])
        self.assertEqual(lacking(3, [[0]]), [(0, 1), (0, 3), (0, 5), (0, 7), (1, 1), (1, 3), (2, 1)])
        self.assertEqual(lacking(2, [[1]]), [(0, 3), (1, 1)])
        self.assertEqual(lacking(64, [[1, 0, 0, 0], [0, 1, 0, 0], [0, 0, 1, 0], [0, 0, 0, 1]]), [])

    def test_alike_forms_lack_the_same(self):
        numbers = Numbers(714)
        for form in many_forms(120, 715):
            other = slow_changed(form, numbers.change(len(form), 3))
            self.assertEqual(lacking(64, form), lacking(64, other))
            self.assertEqual(first_lacking(form), first_lacking(other))
            self.assertEqual(odd_nought_width(form), odd_nought_width(other))
            self.assertEqual(lacking_width(form, 12), lacking_width(other, 12))


class LackingWidth(unittest.TestCase):

    def test_the_least_width_by_all_lists_of_words(self):
        for form in list(small_forms(1, -9, 9)) + list(small_forms(2, -2, 2)):
            counts = {width: slow_counts(width, form) for width in range(1, 6 if len(form) == 1 else 5)}
            for number in range(-9, 20):
                widths = [width for width in counts if counts[width][number % 2 ** width] == 0]
                found = lacking_width(form, number)
                if widths:
                    self.assertEqual(found, widths[0], (form, number))
                else:
                    self.assertTrue(found is None or found > max(counts), (form, number))

    def test_the_least_width_of_many(self):
        numbers = Numbers(721)
        seen = set()
        for form in many_forms(200, 722, (2, 5, 20)):
            number = numbers.one_of((-1, 1)) * numbers.between(0, 40) << numbers.one_of((0, 1, 7, 25))
            found = lacking_width(form, number)
            widths = [width for width in range(1, 65) if not takes(width, form, number % 2 ** width)]
            self.assertEqual(found, widths[0] if widths else None, (form, number))
            self.assertEqual(widths, list(range(found, 65)) if widths else [])
            seen.add(found)
            if number:
                twos = lot_of(999, abs(number))[0]
                self.assertTrue(found is None or found <= twos + 3)
                self.assertIs(found is None, takes(twos + 3, form, number % 2 ** (twos + 3)))
        self.assertGreater(len(seen), 8)

    def test_nought_is_never_lacking(self):
        for form in many_forms(60, 723):
            self.assertIsNone(lacking_width(form, 0))

    def test_widths_of_any_size(self):
        self.assertEqual(lacking_width([[0]], 2 ** 99), 100)
        self.assertEqual(lacking_width([[0]], -2 ** 99), 100)
        self.assertEqual(lacking_width([[2 ** 99]], 3 * 2 ** 98), 99)
        self.assertEqual(lacking_width([[2 ** 98]], 5 * 2 ** 98), 101)
        self.assertEqual(lacking_width([[2 ** 98]], 3 * 2 ** 98), 100)
        self.assertEqual(lacking_width([[2 ** 98]], 2 ** 99), 100)
        self.assertIsNone(lacking_width([[2 ** 98]], 9 * 2 ** 98))
        self.assertEqual(lacking_width([[0, 1], [1, 0]], GREAT), 1)
        self.assertIsNone(lacking_width([[0, 1], [1, 0]], GREAT - 1))


class All(unittest.TestCase):

    def test_by_all_lists_of_words_at_four_bits(self):
        for size, low, high in ((1, -9, 9), (2, -2, 3)):
            for form in small_forms(size, low, high):
                self.assert_first(form, [slow_counts(width, form) for width in (1, 2, 3, 4)])
        for pieces in pieces_up_to(3, 3)[::11]:
            self.assert_first(rows_of(pieces, 3), [slow_counts(width, rows_of(pieces, 3)) for width in (1, 2, 3, 4)])

    def assert_first(self, form, counts):
        lacks = [(width, word) for width, many in enumerate(counts, 1) for word in range(2 ** width) if many[word] == 0]
        self.assertEqual(first_lacking(form), lacks[0] if lacks else None)
        self.assertIs(takes_all(form), not lacks)

    def test_all_words_of_four_bits_are_all_words_at_every_width(self):
        told = {True: 0, False: 0}
        for size, scales, step in ((1, 6, 1), (2, 5, 1), (3, 4, 3), (4, 3, 5), (5, 3, 31), (6, 3, 97)):
            for pieces in pieces_up_to(scales, size)[::step]:
                form = rows_of(pieces, size)
                found = takes_all(form)
                told[found] += 1
                for width in (4, 5, 6, 7, 12):
                    self.assertIs(lacking(width, form) == [], found, (width, pieces))
                first = first_lacking(form)
                self.assertIs(first is None, found)
                if first is not None:
                    self.assertIs(takes(*first[:1], form, first[1]), False)
                    self.assertTrue(first[0] == 1 or lacking(first[0] - 1, form) == [])
                    self.assertTrue(all(takes(first[0], form, word) for word in range(first[1])))
        self.assertGreater(min(told.values()), 50)

    def test_written_ones(self):
        squares = [rows_of([(0, 1)] * size, size) for size in range(1, 7)]
        self.assertEqual([takes_all(form) for form in squares], [False, False, False, True, True, True])
        self.assertEqual([first_lacking(form) for form in squares], [(2, 2), (2, 3), (3, 7), None, None, None])
        self.assertEqual(first_lacking([[2 ** 90]]), (1, 1))
        self.assertEqual(first_lacking(rows_of([(0, 1), (0, 1), (1, 1), (4, 1)], 4)), (4, 14))


class OddNoughts(unittest.TestCase):

    def test_the_least_width_by_all_lists_of_words(self):
        for form in list(small_forms(1, -9, 17)) + list(small_forms(2, -2, 3)):
            expected = None
            for width in range(1, 7 if len(form) == 1 else 5):
                lists = all_words(width, len(form))
                if not any(slow_value(width, form, words) == 0 for words in lists if any(word % 2 for word in words)):
                    expected = width
                    break
            found = odd_nought_width(form)
            if expected is None:
                self.assertTrue(found is None or found > width, form)
            else:
                self.assertEqual(found, expected, form)

    def test_the_least_width_of_many(self):
        seen = set()
        for form in many_forms(240, 731, (2, 5, 20)):
            found = odd_nought_width(form)
            widths = [width for width in range(1, 65) if odd_noughts(width, form) == 0]
            if found is None or found > 64:
                self.assertEqual(widths, [])
            else:
                self.assertEqual(widths, list(range(found, 65)))
            if slow_determinant(form) == 0 or len(form) > 4:
                self.assertIsNone(found)
            elif settled(form, form) <= 64:
                self.assertIs(found is None, odd_noughts(settled(form, form), form) > 0)
            seen.add((len(form), found))
        self.assertGreater(len(seen), 20)
        self.assertTrue({(5, None), (6, None), (4, None)} <= seen)
        self.assertTrue(any(size == 4 and found for size, found in seen))

    def test_five_and_six_unknowns_always_do(self):
        for pieces in pieces_up_to(3, 6)[::61]:
            if unknowns_in(pieces) >= 5:
                self.assertIsNone(odd_nought_width(rows_of(pieces, unknowns_in(pieces))), pieces)

    def test_widths_of_any_size(self):
        self.assertEqual(odd_nought_width([[2 ** 98]]), 99)
        self.assertEqual(odd_nought_width([[1, 0], [0, 2 ** 98]]), 100)
        self.assertEqual(odd_nought_width(rows_of([(97, 2)], 2)), 99)
        self.assertEqual(odd_nought_width(rows_of([(0, 1), (0, 1), (0, 1), (96, 1)], 4)), 99)
        self.assertIsNone(odd_nought_width([[0]]))
        self.assertIsNone(odd_nought_width([[2 ** 98, 0], [0, 0]]))
        self.assertIsNone(odd_nought_width([[GREAT, GREAT], [GREAT, GREAT]]))


if __name__ == "__main__":
    unittest.main()
