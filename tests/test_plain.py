"""Points 18 to 20: plain pieces at a width, and the classes of alike forms."""

import unittest

from tests.helpers import (
    Numbers, as_key, classes_by_changes, pieces_up_to, slow_changed, slow_pieces_at, slow_symbol, slow_table,
    small_tables, unknowns_in,
)
from wordsquares.errors import InvalidNumber
from wordsquares.pieces import cut, is_pieces, sum_of
from wordsquares.plain import class_at, class_number, how_many_classes, plain_at
from wordsquares.symbols import plain_pieces

GREAT = 10 ** 30 - 1
SMALL = ((1, 1), (2, 1), (3, 1), (5, 1), (1, 2), (2, 2), (3, 2), (4, 2), (1, 3), (2, 3), (1, 4), (1, 5))


def put_in(width, pieces):
    """All lists of kinds that point 18 lets pieces have at a width, one square standing for those at the top."""
    found = [[]]
    top = 0
    for k, kind in pieces:
        if k == width - 1 and kind % 2:
            top = 1
        elif k == width - 2 and kind % 2:
            found = [ahead + [(k, some)] for ahead in found for some in (kind, (kind + 4) % 8)]
        elif k < width - 1:
            found = [ahead + [(k, kind)] for ahead in found]
    if top:
        found = [ahead + [(width - 1, some)] for ahead in found for some in (1, 3, 5, 7)]
    return found


def symbols_at(width, pieces, size):
    """The set of all symbols of the choices of point 18."""
    return {as_key(slow_symbol(sorted(some), size)) for some in put_in(width, pieces)}


class PlainAt(unittest.TestCase):

    def test_they_part_all_small_tables_just_as_changes_do(self):
        for width, size in SMALL:
            numbers = classes_by_changes(width, size)
            told = {}
            for table in small_tables(width, size):
                told.setdefault(as_key(plain_at(width, table)), set()).add(numbers[as_key(table)])
            self.assertEqual([len(some) for some in told.values()], [1] * len(told), (width, size))
            self.assertEqual(len(told), len(set(numbers.values())), (width, size))

    def test_they_are_the_first_pieces_with_an_alike_sum(self):
        for width, size in SMALL:
            numbers = classes_by_changes(width, size)
            first = {}
            for pieces in pieces_up_to(width, size):
                if cut(width, pieces) == pieces:
                    first.setdefault(numbers[as_key(slow_table(width, sum_of(pieces, size)))], pieces)
            for table in small_tables(width, size):
                self.assertEqual(plain_at(width, table), first[numbers[as_key(table)]], (width, table))

    def test_alike_exactly_if_some_choices_have_the_same_symbol(self):
        for width, size in ((1, 3), (2, 3), (3, 3), (4, 2), (5, 2)):
            some = pieces_up_to(width + 1, size)[::1 if size == 2 else 7]
            choices = [symbols_at(width, pieces, size) for pieces in some]
            plain = [plain_at(width, sum_of(pieces, size)) for pieces in some]
            for one, low in zip(choices, plain):
                for other, high in zip(choices[::3], plain[::3]):
                    self.assertIs(bool(one & other), low == high)
                    self.assertIs(one == other, low == high)

    def test_many_pieces(self):
        numbers = Numbers(301)
        for at in range(600):
            size = at % 6 + 1
            width = numbers.one_of((1, 2, 3, 4, 5, 6, 8, 33, 64))
            low = max(0, width - 6)
            pieces = [(k + low, kind) for k, kind in numbers.pieces(size, 7)]
            if at % 3 == 0:
                pieces = numbers.pieces(size, width + 1)
            form = sum_of(pieces, size)
            found = plain_at(width, form)
            self.assertTrue(is_pieces(found))
            self.assertEqual(cut(width, found), found)
            self.assertTrue(symbols_at(width, found, size) & symbols_at(width, pieces, size), (width, pieces))
            self.assertLessEqual(found, cut(width, pieces))
            self.assertEqual(plain_at(width, sum_of(found, size)), found)
            self.assertEqual(plain_at(width, slow_changed(form, numbers.change(size, 3))), found)

    def test_first_of_all_lists_by_the_choices(self):
        for width in (2, 3, 4):
            every = [pieces for pieces in pieces_up_to(width, 3) if cut(width, pieces) == pieces]
            choices = [symbols_at(width, pieces, 3) for pieces in every]
            for pieces in pieces_up_to(width, 3)[::11]:
                mine = symbols_at(width, pieces, 3)
                first = next(some for some, other in zip(every, choices) if mine & other)
                self.assertEqual(plain_at(width, sum_of(pieces, 3)), first, (width, pieces))

    def test_forms_up_to_the_limits(self):
        numbers = Numbers(302)
        for at in range(400):
            size = at % 6 + 1
            width = numbers.one_of((1, 2, 3, 7, 32, 63, 64))
            form = numbers.form(size, numbers.one_of((1, 9, 2 ** 40, GREAT)))
            found = plain_at(width, form)
            self.assertTrue(symbols_at(width, found, size) & symbols_at(width, slow_pieces_at(width, form), size))
            self.assertEqual(plain_at(width, slow_changed(form, numbers.change(size, 3))), found)

    def test_at_great_widths_they_are_the_plain_pieces(self):
        for pieces in pieces_up_to(4, 3)[::3]:
            self.assertEqual(plain_at(8, sum_of(pieces, 3)), plain_pieces(sum_of(pieces, 3)))
            self.assertEqual(plain_at(64, sum_of(pieces, 4)), plain_pieces(sum_of(pieces, 4)))

    def test_what_is_less_at_a_width(self):
        for width in (1, 2, 3, 4, 63, 64):
            top, high = [(width - 1, kind) for kind in (1, 3, 5, 7)], 2 ** (width - 1)
            for piece in top:
                self.assertEqual(plain_at(width, sum_of([piece], 1)), [(width - 1, 1)])
                self.assertEqual(plain_at(width, sum_of([piece, (width - 1, 7)], 2)), [(width - 1, 1)])
            self.assertEqual(plain_at(width, [[high, 0, 0], [0, high, 0], [0, 0, high]]), [(width - 1, 1)])
            self.assertEqual(plain_at(width, sum_of([(width - 1, 2)], 2)), [])
            self.assertEqual(plain_at(width, sum_of([(width, 7)], 2)), [])
            if width > 1:
                self.assertEqual(plain_at(width, sum_of([(width - 2, 7)], 1)), [(width - 2, 3)])
                self.assertEqual(plain_at(width, sum_of([(width - 2, 5)], 1)), [(width - 2, 1)])
                self.assertEqual(plain_at(width, sum_of([(width - 2, 2)], 2)), [(width - 2, 2)])
            if width > 2:
                self.assertEqual(plain_at(width, sum_of([(width - 3, 7)], 1)), [(width - 3, 7)])


class Classes(unittest.TestCase):

    def test_as_many_as_changes_hold_apart(self):
        for width, size in SMALL:
            self.assertEqual(how_many_classes(width, size), len(set(classes_by_changes(width, size).values())))

    def test_one_unknown_at_every_width(self):
        for width in range(1, 65):
            self.assertEqual(how_many_classes(width, 1), {1: 2, 2: 4}.get(width, 4 * width - 4))

    def test_they_are_numbered_in_order(self):
        for width, size in SMALL + ((3, 3), (9, 1), (2, 6)):
            many = how_many_classes(width, size)
            found = [class_at(width, size, number) for number in range(many)]
            self.assertTrue(all(low < high for low, high in zip(found, found[1:])))
            for number, pieces in enumerate(found):
                self.assertLessEqual(unknowns_in(pieces), size)
                self.assertEqual(plain_at(width, sum_of(pieces, size)), pieces)
                self.assertEqual(class_number(width, sum_of(pieces, size)), number)
            for wrong in (-1, many, many + 1, 10 ** 6, 10 ** 29):
                with self.assertRaises(InvalidNumber) as told:
                    class_at(width, size, wrong)
                self.assertIs(told.exception.value, wrong)

    def test_each_small_table_has_the_number_of_its_plain_pieces(self):
        for width, size in ((1, 1), (4, 1), (1, 2), (2, 2), (3, 2), (1, 3), (2, 3)):
            for table in small_tables(width, size):
                number = class_number(width, table)
                self.assertEqual(class_at(width, size, number), plain_at(width, table))

    def test_one_unknown_at_the_greatest_width(self):
        self.assertEqual([class_at(64, 1, number) for number in (0, 1, 4, 5, 248, 249, 251)],
                         [[], [(0, 1)], [(0, 7)], [(1, 1)], [(61, 7)], [(62, 1)], [(63, 1)]])
        self.assertEqual(class_number(64, [[-(2 ** 62)]]), 250)
        with self.assertRaises(InvalidNumber):
            class_at(64, 1, 252)

    def test_great_numbers_are_refused_beyond_the_limits_too(self):
        for wrong in (10 ** 29, -1, None, True):
            with self.assertRaises(InvalidNumber) as told:
                class_at(64, 6, wrong)
            self.assertIs(told.exception.value, wrong)

    def test_results_are_new(self):
        class_at(3, 2, 5).append((9, 9))
        self.assertTrue(is_pieces(class_at(3, 2, 5)))
        self.assertIsNot(class_at(3, 2, 5), class_at(3, 2, 5))


if __name__ == "__main__":
    unittest.main()
