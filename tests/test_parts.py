"""Points 45 to 49: parts of forms and their rests."""

import unittest
from functools import lru_cache
from itertools import product

from tests.helpers import (
    Numbers, as_key, pieces_up_to, rows_of, slow_changed, slow_pieces_of, slow_symbol, small_forms, unknowns_in,
)
from wordsquares.alike import are_alike
from wordsquares.forms import beside
from wordsquares.parts import common_parts, is_part, is_sure, parts_of, pieces_in, rests
from wordsquares.symbols import plain_pieces, symbol

GREAT = 10 ** 30 - 1
KINDS = (0, 1, 2, 3, 5, 7)


@lru_cache
def plain_lists(scales, size):
    """All plain pieces of forms of so many unknowns whose scales are below a number, in order."""
    firsts = {}
    for pieces in pieces_up_to(scales, size):
        firsts.setdefault(as_key(slow_symbol(pieces, size)), pieces)
    return sorted(firsts.values())


def slow_rests(form, part, scales):
    """The plain pieces of all rests, by going through all sums of pieces that could be one."""
    size = len(form) - len(part)
    goal = slow_symbol(slow_pieces_of(form), len(form))
    own = slow_pieces_of(part)
    if size == 0:
        return [[]] if slow_symbol(own, len(part)) == goal else []
    return [rest for rest in plain_lists(scales, size) if slow_symbol(sorted(own + rest), len(form)) == goal]


def two_forms(many, seed, size_of_form, most):
    """Tuples of a form and one that often is a part of it, both changed."""
    numbers = Numbers(seed)
    for at in range(many):
        size = size_of_form(at)
        pieces = numbers.pieces(size, most)
        form = slow_changed(rows_of(pieces, size), numbers.change(size, 2))
        other = at % size + 1
        some = [piece for piece in pieces if numbers.below(2)]
        while unknowns_in(some) > other:
            some.pop(0)
        if numbers.below(3) == 0:
            some = [(k, (kind + 4) % 8 if kind % 2 else 2 - kind) for k, kind in some]
        if numbers.below(9) == 0:
            some = numbers.pieces(other, most)
        yield form, slow_changed(rows_of(sorted(some), other), numbers.change(other, 2))


class Rests(unittest.TestCase):

    def test_all_sums_that_complete_a_part(self):
        many = {}
        squares = [(rows_of(pieces, 3), [[kind << k]]) for pieces in pieces_up_to(2, 3)[::2] for k in (0, 1) for kind in (1, 3, 7)]
        for form, part in list(two_forms(400, 901, lambda at: at % 4 + 1, 3)) + squares:
            expected = slow_rests(form, part, 3)
            self.assertEqual(rests(form, part), expected, (form, part))
            self.assertIs(is_part(form, part), expected != [])
            self.assertIs(is_sure(form, part), len(expected) == 1)
            many[len(expected)] = many.get(len(expected), 0) + 1
        self.assertTrue({0, 1, 2} <= set(many), many)
        self.assertGreater(min(many.values()), 5)

    def test_rests_are_just_the_plain_pieces_of_all_forms_that_complete_a_part(self):
        others = {size: list(small_forms(size, -1, 2)) for size in (1, 2)}
        for form in ([[0, 1, 0], [1, 0, 0], [0, 0, 1]], [[1, 0, 0], [0, 1, 0], [0, 0, 2]], [[2, 1, 0], [1, 2, 0], [0, 0, 2]], [[1, 0], [0, 1]], [[0, 1], [1, 0]]):
            for size in (1, 2):
                for part in others[size][::3]:
                    if size < len(form):
                        found = rests(form, part)
                        for rest in others.get(len(form) - size, []):
                            right = are_alike(form, beside(part, rest))
                            self.assertIs(right, plain_pieces(rest) in found, (form, part, rest))

    def test_rests_complete_the_part(self):
        for form, part in two_forms(300, 902, lambda at: at % 6 + 1, 5):
            size = len(form) - len(part)
            found = rests(form, part)
            self.assertEqual(found, sorted(found))
            for rest in found:
                if size:
                    self.assertEqual(plain_pieces(rows_of(rest, size)), rest)
                    self.assertIs(are_alike(form, beside(part, rows_of(rest, size))), True)
                    # What is left is a part, too, and the part is one of its rests.
                    self.assertIn(plain_pieces(part), rests(form, rows_of(rest, size)))
                else:
                    self.assertEqual(rest, [])

    def test_nothing_is_left(self):
        for form, _ in two_forms(100, 903, lambda at: at % 6 + 1, 4):
            size = len(form)
            other = slow_changed(form, Numbers(size).change(size, 3))
            self.assertEqual(rests(form, other), [[]])
            self.assertIs(is_sure(form, other), True)
            far = [[3 * item for item in row] for row in form]
            self.assertEqual(rests(form, far), [[]] if are_alike(form, far) else [])

    def test_alike_forms_have_the_same_parts_and_rests(self):
        numbers = Numbers(904)
        for form, part in two_forms(200, 905, lambda at: at % 6 + 1, 4):
            other = slow_changed(form, numbers.change(len(form), 3))
            turned = slow_changed(part, numbers.change(len(part), 3))
            self.assertEqual(rests(form, part), rests(other, turned))
            self.assertEqual(pieces_in(form), pieces_in(other))

    def test_unknowns_that_stand_nowhere(self):
        for size in range(1, 7):
            nought = [[0] * size for _ in range(size)]
            for many in range(1, size + 1):
                part = [[0] * many for _ in range(many)]
                self.assertEqual(rests(nought, part), [[]])
                self.assertEqual(rests(rows_of([(0, 1)], size), part), [[(0, 1)]] if many < size else [])
        self.assertEqual(rests([[1, 0], [0, 0]], [[1]]), [[]])
        self.assertEqual(rests([[1, 0], [0, 0]], [[0]]), [[(0, 1)]])
        self.assertEqual(rests([[1, 0], [0, 1]], [[0]]), [])
        self.assertEqual(rests([[0, 0], [0, 0]], [[1]]), [])
        self.assertEqual(rests([[0, 1], [1, 0]], [[0]]), [])


class Sure(unittest.TestCase):

    def test_pairs_can_be_cancelled(self):
        numbers = Numbers(911)
        many = 0
        pairs = [pieces for pieces in pieces_up_to(3, 4, (0, 2)) if pieces]
        for one in pairs:
            for _ in range(12):
                size = numbers.between(unknowns_in(one) + 1, 6)
                rest = numbers.pieces(size - unknowns_in(one), 3)
                form = slow_changed(rows_of(sorted(one + rest), size), numbers.change(size, 1))
                part = rows_of(one, unknowns_in(one))
                expected = plain_pieces(rows_of(rest, size - len(part)))
                self.assertEqual(rests(form, part), [expected])
                self.assertIs(is_sure(form, part), True)
                many += 1
        self.assertGreater(many, 200)

    def test_pairs_leave_one_rest_or_none(self):
        for pieces in pieces_up_to(2, 4)[::3]:
            form = rows_of(pieces, 5)
            for part in ([(0, 0)], [(0, 2)], [(1, 0)], [(0, 0), (0, 2)], [(0, 2), (1, 2)]):
                found = rests(form, rows_of(part, unknowns_in(part)))
                self.assertLessEqual(len(found), 1)
                self.assertIs(is_sure(form, rows_of(part, unknowns_in(part))), len(found) == 1)

    def test_a_square_may_leave_several(self):
        mixed = [[0, 1, 0], [1, 0, 0], [0, 0, 1]]
        self.assertEqual(rests(mixed, [[1]]), [[(0, 0)], [(0, 1), (0, 7)]])
        self.assertIs(is_sure(mixed, [[1]]), False)
        self.assertIs(is_sure(mixed, [[2]]), False)
        self.assertIs(is_sure(mixed, [[3]]), True)

    def test_rests_have_the_same_scales_and_noughts(self):
        several = 0
        for form, part in two_forms(500, 912, lambda at: at % 4 + 3, 3):
            size = len(form) - len(part)
            found = rests(form, part) if size else []
            told = []
            for rest in found:
                scales, _, noughts = symbol(rows_of(rest, size))
                told.append(([(k, many) for k, many, _, _ in scales], noughts))
            self.assertTrue(all(item == told[0] for item in told), (form, part))
            several += len(told) > 1
        self.assertGreater(several, 10)


def lists_times(form, words):
    return [sum(item * word for item, word in zip(row, words)) for row in form]


def squares_by_words(form, k):
    """The kinds of the squares of a scale that are in a form, by the words of point 47."""
    width = k + 3
    found = set()
    for words in product(range(2 ** width), repeat=len(form)):
        made = lists_times(form, words)
        if all(item % 2 ** k == 0 for item in made):
            value = sum(item * word for item, word in zip(made, words)) % 2 ** width
            found.update(kind for kind in (1, 3, 5, 7) if value == 2 ** k * kind)
    return found


def pairs_by_words(form, k):
    """The kinds of the pairs of a scale that are in a form, by the words of point 47."""
    width = k + 3
    good = []
    for words in product(range(2 ** width), repeat=len(form)):
        made = lists_times(form, words)
        value = sum(item * word for item, word in zip(made, words)) % 2 ** width
        if all(item % 2 ** k == 0 for item in made) and value % 2 ** (k + 1) == 0:
            good.append((words, made, value // 2 ** (k + 1) % 2))
    found = set()
    # Words with the same rests by 2 need not be tried again.
    kinds = {}
    for words, made, odd in good:
        kinds.setdefault((tuple(item // 2 ** k % 2 for item in made), tuple(word % 2 for word in words), odd), None)
    for first, _, low in kinds:
        for _, second, high in kinds:
            if sum(item * word for item, word in zip(first, second)) % 2:
                found.add(2 if low and high else 0)
    return found


class PiecesIn(unittest.TestCase):

    def test_each_piece_that_is_a_part(self):
        for form, _ in two_forms(150, 921, lambda at: at % 6 + 1, 4):
            expected = []
            for k in range(5):
                for kind in KINDS:
                    size = 1 if kind % 2 else 2
                    if size <= len(form) and is_part(form, rows_of([(k, kind)], size)):
                        expected.append((k, kind))
            self.assertEqual(pieces_in(form), sorted(expected), form)

    def test_squares_by_words(self):
        for size, scales, low, high in ((1, 3, -9, 9), (2, 2, -3, 4), (3, 1, -1, 1)):
            for form in list(small_forms(size, low, high))[::1 if size < 3 else 5]:
                found = pieces_in(form)
                for k in range(scales):
                    kinds = {kind for scale, kind in found if scale == k and kind % 2}
                    self.assertEqual(kinds, squares_by_words(form, k), (form, k))

    def test_pairs_by_words(self):
        for size, scales, low, high, step in ((1, 2, -3, 3, 1), (2, 2, -3, 4, 3), (3, 1, -1, 2, 31)):
            for form in list(small_forms(size, low, high))[::step]:
                found = pieces_in(form)
                for k in range(scales):
                    kinds = {kind for scale, kind in found if scale == k and kind % 2 == 0}
                    self.assertEqual(kinds, pairs_by_words(form, k), (form, k))

    def test_sums_of_pieces_by_words(self):
        for pieces in pieces_up_to(2, 3)[::7]:
            form = rows_of(pieces, 3)
            kinds = {kind for k, kind in pieces_in(form) if k == 0}
            self.assertEqual(kinds, squares_by_words(form, 0) | pairs_by_words(form, 0), pieces)

    def test_great_scales(self):
        self.assertEqual(pieces_in([[3 * 2 ** 98]]), [(98, 3)])
        self.assertEqual(pieces_in([[2 ** 96, 0], [0, 2 ** 97]]), [(96, 1), (96, 3), (97, 1), (97, 3)])
        self.assertEqual(pieces_in([[GREAT, 0], [0, 0]]), [(0, GREAT % 8)])


class PartsOf(unittest.TestCase):

    def test_all_plain_pieces_that_are_parts(self):
        for form, _ in two_forms(48, 931, lambda at: at % 4 + 1, 3):
            for size in range(1, len(form) + 1):
                expected = [some for some in plain_lists(3, size) if is_part(form, rows_of(some, size))]
                self.assertEqual(parts_of(form, size), expected, (form, size))

    def test_whether_a_form_is_a_part_is_told_by_its_plain_pieces(self):
        for form, part in two_forms(300, 932, lambda at: at % 4 + 1, 4):
            self.assertIs(is_part(form, part), plain_pieces(part) in parts_of(form, len(part)))

    def test_the_part_of_a_part_is_a_part_and_each_rest_is_one(self):
        for form, _ in two_forms(60, 933, lambda at: at % 3 + 2, 3):
            size = len(form)
            for many in range(1, size):
                for some in parts_of(form, many):
                    part = rows_of(some, many)
                    for rest in rests(form, part):
                        self.assertIn(rest, parts_of(form, size - many))
                    for fewer in range(1, many + 1):
                        for less in parts_of(part, fewer):
                            self.assertIn(less, parts_of(form, fewer))

    def test_the_whole_form_is_its_only_part_with_all_unknowns(self):
        for form, _ in two_forms(100, 934, lambda at: at % 4 + 1, 5):
            self.assertEqual(parts_of(form, len(form)), [plain_pieces(form)])

    def test_six_unknowns(self):
        form = rows_of([(0, 1), (1, 1), (2, 1), (3, 1), (4, 1), (5, 1)], 6)
        self.assertEqual(parts_of(form, 6), [plain_pieces(form)])
        self.assertEqual(parts_of(form, 1), [[piece] for piece in pieces_in(form)])
        self.assertEqual(parts_of([[0] * 6] * 6, 3), [[]])


class CommonParts(unittest.TestCase):

    def test_as_many_unknowns_as_can_be(self):
        sizes = {}
        others = [other for other, _ in two_forms(60, 941, lambda at: at % 3 + 1, 3)]
        for at, (one, _) in enumerate(two_forms(120, 942, lambda at: at // 3 % 3 + 1, 3)):
            other = others[at % 60]
            expected = None
            for size in range(1, min(len(one), len(other)) + 1):
                common = [some for some in plain_lists(3, size)
                          if is_part(one, rows_of(some, size)) and is_part(other, rows_of(some, size))]
                expected = common or expected
            found = common_parts(one, other)
            self.assertEqual(found, expected, (one, other))
            self.assertEqual(common_parts(other, one), found)
            told = None if found is None else unknowns_in(found[0])
            sizes[told] = sizes.get(told, 0) + 1
        self.assertGreater(len(sizes), 2)

    def test_parts_of_a_form_are_common(self):
        for form, part in two_forms(150, 943, lambda at: at % 3 + 1, 4):
            self.assertEqual(common_parts(form, form), [plain_pieces(form)])
            if is_part(form, part):
                self.assertEqual(common_parts(form, part), [plain_pieces(part)])

    def test_written_ones(self):
        self.assertIsNone(common_parts([[0]], [[1]]))
        self.assertEqual(common_parts([[0]], [[1, 0], [0, 0]]), [[]])
        self.assertEqual(common_parts([[0, 0], [0, 0]], [[0]]), [[]])
        self.assertEqual(common_parts([[0, 1], [1, 0]], [[1, 0], [0, 7]]), None)
        self.assertEqual(common_parts([[2 ** 90]], [[9 * 2 ** 90, 0], [0, 1]]), [[(90, 1)]])


if __name__ == "__main__":
    unittest.main()
