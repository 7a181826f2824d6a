"""Points 24 to 26: what parts forms that are not alike."""

import unittest

from tests.helpers import (
    Numbers, classes_by_changes, as_key, pieces_up_to, rows_of, settled, slow_changed, slow_counts, slow_pieces_at,
    slow_pieces_of, slow_symbol, small_tables, two_sums, unknowns_in,
)
from wordsquares.alike import alike_at, are_alike, parting_width
from wordsquares.counts import all_counts, how_often
from wordsquares.parting import equal_counts, is_parting_word, low_scales, parting_sign, parting_word
from wordsquares.splits import scales_of

GREAT = 10 ** 30 - 1
LONE = rows_of([(0, 1), (1, 1), (1, 1), (1, 1), (2, 1)], 5)
MATE = rows_of([(0, 1), (0, 1), (1, 1), (2, 1), (2, 1)], 5)


def slow_parting_sign(one, other):
    """The parting sign by the words of point 24."""
    low, high = [slow_symbol(slow_pieces_of(form), len(form)) for form in (one, other)]
    for at, name in ((1, "unknowns"), (2, "odd"), (3, "sign")):
        for k in range(200):
            left = [scale[at] for scale in low[0] if scale[0] == k]
            right = [scale[at] for scale in high[0] if scale[0] == k]
            if left != right:
                return (name, k) + tuple((left or [0]) + (right or [0]))
    for (k, left), (_, right) in zip(low[1], high[1]):
        if left != right:
            return ("sum", k, left, right)
    return None


def lot_words(width):
    """0 and the least word of each lot: all others are taken as often as one of these."""
    return sorted({0} | {odd << twos for twos in range(width) for odd in (1, 3, 5, 7) if odd < 2 ** (width - twos)})


def first_unlike(width, one, other):
    """The first word, with its two numbers, that two forms take unlike often at a width."""
    for word in lot_words(width):
        low, high = how_often(width, one, word), how_often(width, other, word)
        if low != high:
            return width, word, low, high
    return None


class PartingSign(unittest.TestCase):

    def test_many_sums(self):
        names = {}
        for one, other in two_sums(900, 601, 58):
            found = parting_sign(one, other)
            self.assertEqual(found, slow_parting_sign(one, other))
            self.assertIs(found is None, are_alike(one, other))
            if found is not None:
                names[found[0]] = names.get(found[0], 0) + 1
                kind = bool if found[0] == "odd" else int
                self.assertEqual([type(item) for item in found], [str, int, kind, kind])
                turned = parting_sign(other, one)
                self.assertEqual(turned, found[:2] + found[:1:-1])
        self.assertEqual(sorted(names), ["odd", "sign", "sum", "unknowns"])
        self.assertGreater(min(names.values()), 5)

    def test_all_small_pieces(self):
        some = [rows_of(pieces, 2) for pieces in pieces_up_to(3, 2)]
        for one in some[::2]:
            for other in some[::3]:
                self.assertEqual(parting_sign(one, other), slow_parting_sign(one, other))

    def test_the_order_of_the_names(self):
        self.assertEqual(parting_sign(rows_of([(0, 1), (5, 1)], 2), rows_of([(0, 3), (6, 1)], 2)), ("unknowns", 5, 1, 0))
        self.assertEqual(parting_sign([[0]], [[2 ** 9]]), ("unknowns", 9, 0, 1))
        self.assertEqual(parting_sign(rows_of([(0, 3), (5, 1), (5, 1)], 3), rows_of([(0, 1), (5, 0)], 3)), ("odd", 5, True, False))
        self.assertEqual(parting_sign(rows_of([(0, 7), (5, 1)], 2), rows_of([(0, 1), (5, 3)], 2)), ("sign", 5, 1, -1))
        self.assertEqual(parting_sign(rows_of([(0, 7), (5, 1)], 2), rows_of([(0, 1), (5, 7)], 2)), ("sum", 0, 7, 1))
        self.assertEqual(parting_sign(rows_of([(0, 1), (5, 1)], 2), rows_of([(0, 1), (5, 7)], 2)), ("sum", 5, 1, 7))

    def test_signs_are_those_of_the_symbols(self):
        # Walked, the sign of the second scale stands at the first.
        self.assertEqual(parting_sign(rows_of([(0, 1), (1, 3)], 2), rows_of([(0, 1), (1, 1)], 2)), ("sign", 0, -1, 1))

    def test_forms_up_to_the_limits(self):
        numbers = Numbers(602)
        for at in range(120):
            size = at % 6 + 1
            one = numbers.form(size, GREAT)
            self.assertIsNone(parting_sign(one, slow_changed(one, numbers.change(size, 9))))
            other = numbers.form(size, GREAT)
            self.assertEqual(parting_sign(one, other), slow_parting_sign(one, other))


class PartingWord(unittest.TestCase):

    def assert_told(self, one, other, least=1):
        found = parting_word(one, other)
        expected = None
        for width in range(least, min(64, settled(one, other)) + 1):
            expected = first_unlike(width, one, other)
            if expected:
                break
        self.assertEqual(found, expected, (one, other))
        if found is not None:
            self.assertIs(is_parting_word(one, other, found), True)
            self.assertIs(is_parting_word(other, one, found[:2] + found[:1:-1]), True)
            self.assertGreaterEqual(found[0], parting_width(one, other))
            scales = [[scale[:2] for scale in scales_of(form)] for form in (one, other)]
            if scales[0] == scales[1]:
                self.assertEqual(found[0], parting_width(one, other))
            for width in range(found[0] + 1, min(64, found[0] + 4) + 1):
                self.assertIsNotNone(first_unlike(width, one, other))
        return found

    def test_many_sums(self):
        many = 0
        for one, other in two_sums(160, 611, 10):
            found = self.assert_told(one, other)
            if found is None:
                alike = are_alike(one, other)
                self.assertTrue(alike or len(one) > 4)
                many += alike
        self.assertGreater(many, 20)

    def test_all_small_pieces(self):
        some = [rows_of(pieces, 2) for pieces in pieces_up_to(2, 2)]
        for one in some:
            for other in some[::2]:
                found = self.assert_told(one, other)
                self.assertIs(found is None, are_alike(one, other))

    def test_the_least_word_at_the_least_width_by_all_lists_of_words(self):
        for size, step in ((1, 1), (2, 1), (3, 5)):
            some = [rows_of(pieces, size) for pieces in pieces_up_to(2, size)][::step]
            for one in some[::2]:
                for other in some[::3]:
                    expected = None
                    for width in (1, 2, 3) if size > 1 else (1, 2, 3, 4):
                        low, high = slow_counts(width, one), slow_counts(width, other)
                        unlike = [word for word in range(2 ** width) if low[word] != high[word]]
                        if unlike:
                            expected = (width, unlike[0], low[unlike[0]], high[unlike[0]])
                            break
                    found = parting_word(one, other)
                    if expected is None:
                        self.assertTrue(found is None or found[0] > 3, (one, other))
                    else:
                        self.assertEqual(found, expected)

    def test_equal_counts_and_equal_scales_are_the_same_as_alike(self):
        some = pieces_up_to(3, 3)[::9] + pieces_up_to(2, 4)[::9]
        for one in some:
            for other in some[::4]:
                left, right = rows_of(one, 4), rows_of(other, 4)
                scales = [[scale[:2] for scale in scales_of(form)] for form in (left, right)]
                taken = parting_word(left, right) is None
                self.assertIs(are_alike(left, right), taken and scales[0] == scales[1])
                # Up to four unknowns equal counts are enough.
                self.assertIs(are_alike(left, right), taken)

    def test_five_unknowns_that_counts_do_not_part(self):
        self.assertIs(are_alike(LONE, MATE), False)
        self.assertIsNone(parting_word(LONE, MATE))
        self.assertEqual(parting_sign(LONE, MATE), ("unknowns", 0, 1, 2))
        for width in range(1, 65):
            self.assertIs(equal_counts(width, LONE, MATE), True)
        for width in (1, 2, 7, 10):
            self.assertEqual(all_counts(width, LONE), all_counts(width, MATE))

    def test_the_greatest_width_that_there_is(self):
        self.assertEqual(parting_word([[2 ** 58]], [[5 * 2 ** 58]]), (61, 2 ** 58, 2 ** 60, 0))
        one, other = rows_of([(58, 0)], 2), rows_of([(58, 2)], 2)
        self.assertEqual(self.assert_told(one, other, 58)[0], 60)
        one, other = rows_of([(0, 1), (58, 0)], 3), rows_of([(0, 1), (58, 2)], 3)
        self.assertEqual(self.assert_told(one, other, 58)[0], 60)
        one, other = rows_of([(57, 0), (58, 1)], 3), rows_of([(58, 1)], 3)
        self.assertEqual([parting_width(one, other), self.assert_told(one, other, 58)[0]], [59, 60])
        seen = [parting_word(one, other) for one, other in two_sums(200, 612, 58)]
        self.assertGreaterEqual(max(found[0] for found in seen if found), 60)

    def test_widths_above_64(self):
        self.assertEqual(parting_word([[2 ** 70]], [[0]]), (71, 0, 2 ** 70, 2 ** 71))
        self.assertEqual(parting_word([[2 ** 62]], [[5 * 2 ** 62]])[0], 65)
        self.assertIs(is_parting_word([[2 ** 70]], [[0]], (71, 0, 2 ** 70, 2 ** 71)), False)


class IsPartingWord(unittest.TestCase):

    def test_exactly_the_words_that_are_taken_unlike_often(self):
        for one, other in two_sums(40, 621, 4):
            for width in (1, 2, 3):
                low, high = all_counts(width, one), all_counts(width, other)
                for word in range(2 ** width):
                    right = low[word] != high[word]
                    self.assertIs(is_parting_word(one, other, (width, word, low[word], high[word])), right)
                    self.assertIs(is_parting_word(other, one, (width, word, high[word], low[word])), right)
                    self.assertIs(is_parting_word(one, other, (width, word, high[word], low[word])), False)
                    self.assertIs(is_parting_word(one, other, (width, word, low[word] + 1, high[word])), False)
                    self.assertIs(is_parting_word(one, other, (width, word, low[word], high[word] - 1)), False)

    def test_any_word_and_width_may_be_told(self):
        one, other = [[1, 0], [0, 1]], [[0, 1], [1, 0]]
        self.assertIs(is_parting_word(one, other, (64, 1, how_often(64, one, 1), how_often(64, other, 1))), True)
        self.assertIs(is_parting_word(one, other, (2, 2, 4, 4)), False)

    def test_bent_ones_are_none(self):
        one, other = [[1]], [[0]]
        right = (1, 1, 1, 0)
        self.assertIs(is_parting_word(one, other, right), True)
        for wrong in (
            list(right), right[:3], right + (0,), (right,), [right], None, True, 1, "1110", (), {}, {1: right},
            (True, 1, 1, 0), (1, True, 1, 0), (1, 1, True, 0), (1, 1, 1, False), (0, 1, 1, 0), (65, 1, 1, 0),
            (1, 2, 1, 0), (1, -1, 1, 0), (1, 1, "1", 0), (1, 1, 1, None), ("1", 1, 1, 0), (1, None, 1, 0),
            (1, 1, [1], 0), (1, 1, 0, 1), (1, 1, 1, 1), (2, 5, 2, 0), ([1], 1, 1, 0), (1, (1,), 1, 0),
        ):
            self.assertIs(is_parting_word(one, other, wrong), False, wrong)


class AtOneWidth(unittest.TestCase):

    def test_equal_counts(self):
        for one, other in two_sums(300, 631, 8):
            for width in (1, 2, 3, 4, 5, 6, 7):
                right = all_counts(width, one) == all_counts(width, other)
                self.assertIs(equal_counts(width, one, other), right)
        for k in range(5):
            # Beside a square of the next scale a pair is like none, but for the scales.
            one, other = rows_of([(k, 0), (k + 1, 1)], 3), rows_of([(k + 1, 1)], 3)
            self.assertIs(equal_counts(k + 2, one, other), True)
            self.assertIs(alike_at(k + 2, one, other), False)
            self.assertIs(equal_counts(k + 3, one, other), False)

    def test_equal_counts_by_all_lists_of_words(self):
        for width, size in ((1, 1), (2, 1), (3, 1), (1, 2), (2, 2), (1, 3)):
            tables = list(small_tables(width, size))
            counts = [slow_counts(width, table) for table in tables]
            for one, low in zip(tables, counts):
                for other, high in zip(tables, counts):
                    self.assertIs(equal_counts(width, one, other), low == high)

    def test_low_scales(self):
        numbers = Numbers(632)
        for at in range(500):
            size = at % 6 + 1
            width = numbers.one_of((1, 2, 3, 4, 8, 64))
            form = numbers.form(size, numbers.one_of((1, 9, GREAT)))
            if at % 2:
                form = rows_of(numbers.pieces(size, width + 2), size)
            found = low_scales(width, form)
            pieces = slow_pieces_at(width, form)
            expected = [(k, unknowns_in([piece for piece in pieces if piece[0] == k])) for k in range(width - 1)]
            self.assertEqual(found, [(k, many) for k, many in expected if many])
            self.assertEqual(low_scales(width, slow_changed(form, numbers.change(size, 3))), found)

    def test_low_scales_end_below_the_width_less_1(self):
        for width in (2, 3, 63, 64):
            self.assertEqual(low_scales(width, [[2 ** (width - 2)]]), [(width - 2, 1)])
            self.assertEqual(low_scales(width, [[2 ** (width - 1)]]), [])
        self.assertEqual(low_scales(1, [[1]]), [])

    def test_alike_exactly_if_counts_and_low_scales_are_equal(self):
        for width, size in ((1, 1), (3, 1), (1, 2), (2, 2), (3, 2), (1, 3), (2, 3)):
            numbers = classes_by_changes(width, size)
            tables = list(small_tables(width, size))
            for one in tables[::max(1, len(tables) // 40)]:
                for other in tables[::max(1, len(tables) // 90)]:
                    right = equal_counts(width, one, other) and low_scales(width, one) == low_scales(width, other)
                    self.assertIs(right, numbers[as_key(one)] == numbers[as_key(other)])
        for one, other in two_sums(500, 633, 8):
            for width in (2, 3, 4, 5, 8, 11):
                right = equal_counts(width, one, other) and low_scales(width, one) == low_scales(width, other)
                self.assertIs(right, alike_at(width, one, other))


if __name__ == "__main__":
    unittest.main()
