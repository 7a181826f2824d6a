"""The whole program: all modules tell one and the same thing of a form, of what changes make of it, and of others."""

import unittest

from tests.helpers import Numbers, rows_of, slow_counts, small_tables, two_sums
from wordsquares.alike import alike_at, are_alike, grouped, grouped_at, parting_width
from wordsquares.book import FormBook
from wordsquares.counts import all_counts, counts_along, how_often, odd_noughts
from wordsquares.errors import TooMany, Unlike
from wordsquares.forms import beside, changed, joined, table_of, undone, value_at
from wordsquares.kept import how_many_alike, how_many_changes, how_many_keep, how_many_tables, is_keeping, kept_from, settled_width
from wordsquares.leading import (
    all_leading, change_of_steps, is_leading, leading_change, plain_change, steps_of,
)
from wordsquares.lines import line_of, of_line
from wordsquares.parting import equal_counts, is_parting_word, low_scales, parting_sign, parting_word
from wordsquares.parts import is_part, parts_of, pieces_in, rests
from wordsquares.pieces import cut, sum_of, times, together, unknowns_of
from wordsquares.plain import class_at, class_number, how_many_classes, plain_at
from wordsquares.roads import is_road, road
from wordsquares.sheets import are_like, is_diagonal, diagonal, rungs, rungs_everywhere, silent
from wordsquares.splits import fewest_twos, is_split, pieces_at, pieces_of, scales_of, split
from wordsquares.symbols import pieces_of_symbol, plain_pieces, symbol, symbol_of
from wordsquares.taken import first_lacking, lacking, lacking_width, odd_nought_width, takes, takes_all
from wordsquares.turns import halves_at, taken_by_turns, turn_sum, turn_table, turns_part, zero_widths

GREAT = 10 ** 30 - 1
WIDTHS = (1, 2, 3, 5, 8, 33, 64)


def many_forms(many, seed):
    numbers = Numbers(seed)
    for at in range(many):
        size = at % 6 + 1
        if at % 3 == 0:
            yield numbers.form(size, numbers.one_of((1, 6, 2 ** 40, GREAT)))
        else:
            yield changed(rows_of(numbers.pieces(size, numbers.one_of((2, 5, 20))), size), numbers.change(size, 2))


def told_everywhere(form):
    """What is the same for all forms that are alike at every width."""
    return [
        symbol(form), plain_pieces(form), [scale[:2] for scale in scales_of(form)], fewest_twos(form), pieces_in(form),
        rungs_everywhere(form), zero_widths(form), takes_all(form), first_lacking(form), odd_nought_width(form),
        settled_width(form), kept_from(form), counts_along(form, 12, 9), lacking_width(form, -40),
        parts_of(form, 1), rests(form, [[2]]), turn_table(64, form),
    ]


def told_at(width, form):
    """What is the same for all forms that are alike at a width."""
    found = [
        plain_at(width, form), plain_change(width, form)[0], low_scales(width, form), lacking(width, form),
        odd_noughts(width, form), turn_table(width, form), [how_often(width, form, word) for word in (0, 1, 2 ** width - 1)],
        FormBook(width, form).pieces(),
    ]
    if width <= 5:
        found += [all_counts(width, form), taken_by_turns(width, form)]
    try:
        found += [how_many_keep(width, form), how_many_alike(width, form)]
    except TooMany as error:
        found.append(error.value)
    return found


class OneForm(unittest.TestCase):

    def test_what_changes_make_of_a_form(self):
        numbers = Numbers(1501)
        for form in many_forms(60, 1502):
            size = len(form)
            change = numbers.change(size, 2)
            other = changed(form, change)
            self.assertEqual(told_everywhere(form), told_everywhere(other))
            self.assertIs(are_alike(form, other), True)
            for found in (parting_width(form, other), parting_sign(form, other), parting_word(form, other), turns_part(form, other)):
                self.assertIsNone(found)
            for width in WIDTHS:
                self.assertEqual(told_at(width, form), told_at(width, other), (width, form))
                self.assertIs(alike_at(width, form, other) and equal_counts(width, form, other), True)
                self.assertIs(are_like(width, form, other), True)
                self.assertIs(is_leading(width, form, other, change), True)
                back = undone(width, change)
                self.assertIs(is_leading(width, other, form, back), True)
                self.assertIs(is_keeping(width, form, joined(change, back)), True)
                self.assertIs(is_leading(width, form, other, change_of_steps(width, size, steps_of(width, change))), True)
                led = leading_change(width, form, other)
                self.assertIs(is_keeping(width, form, joined(led, back)), True)
                self.assertIs(FormBook(width, form).alike(FormBook(64, other)), True)

    def test_pieces_and_splits_and_plain_pieces(self):
        for form in many_forms(80, 1511):
            size = len(form)
            pieces, plain = pieces_of(form), plain_pieces(form)
            whole = sum_of(pieces, size)
            self.assertEqual(symbol(form), symbol_of(pieces, size))
            self.assertEqual(pieces_of_symbol(symbol(form)), plain)
            self.assertIs(are_alike(form, whole), True)
            self.assertIs(is_road(pieces, plain, road(pieces, plain)), True)
            self.assertEqual(unknowns_of(pieces), sum(many for _, many, _ in scales_of(form)))
            self.assertEqual(rungs_everywhere(form), sorted(k for k, many, _ in scales_of(form) for _ in range(many)))
            self.assertIs(is_part(form, whole), True)
            self.assertTrue(set(pieces) <= set(pieces_in(form)))
            for width in WIDTHS:
                self.assertEqual([piece for piece in pieces_at(width, form) if piece[0] < width - 1],
                                 [piece for piece in cut(width, pieces) if piece[0] < width - 1])
                self.assertIs(is_split(width, form, split(width, form)), True)
                self.assertEqual(plain_at(width, form), plain_at(width, sum_of(cut(width, pieces), size)))
                told, change = plain_change(width, form)
                self.assertEqual(told, plain_at(width, form))
                self.assertIs(is_leading(width, form, sum_of(told, size), change), True)
                self.assertEqual(rungs(width, form), [k for k in rungs_everywhere(form) if k < width])
                self.assertIs(is_diagonal(width, form, diagonal(width, form)), True)
                self.assertEqual([k for k, many in low_scales(width, form) for _ in range(many)], rungs(width, form)[:len(
                    [k for k in rungs(width, form) if k < width - 1])])

    def test_counts_by_words_by_pieces_and_by_turns(self):
        for width, size in ((1, 1), (3, 1), (2, 2), (1, 3), (2, 3)):
            for table in small_tables(width, size):
                counts = slow_counts(width, table)
                self.assertEqual(all_counts(width, table), counts)
                self.assertEqual(taken_by_turns(width, table), counts)
                self.assertEqual([takes(width, table, word) for word in range(2 ** width)], [many > 0 for many in counts])
                self.assertEqual(lacking(width, table) == [], 0 not in counts)
        for form in many_forms(40, 1521):
            self.assertEqual(all_counts(7, form), taken_by_turns(7, form))
            for width in WIDTHS:
                self.assertIs(lacking(width, form) == [], first_lacking(form) is None or first_lacking(form)[0] > width)
                for word in (0, 1, 2 ** (width - 1)):
                    self.assertIs(takes(width, form, word), how_often(width, form, word) > 0)
                    found = lacking_width(form, word)
                    self.assertIs(takes(width, form, word), found is None or found > width)
                told = turn_sum(width, form, 1)
                self.assertIs(told is None, width in zero_widths(form))
                self.assertEqual(told is None or told[1], told is None or halves_at(width, form))
            self.assertEqual(counts_along(form, 6, 64), [how_often(width, form, 6 % 2 ** width) for width in range(1, 65)])

    def test_parts_and_what_is_left(self):
        for form in many_forms(48, 1531):
            for piece in pieces_in(form)[:6]:
                size = unknowns_of([piece])
                part = sum_of([piece], size)
                for rest in rests(form, part):
                    self.assertIs(symbol_of(together([piece], rest), len(form)) == symbol(form), True)
                    if size < len(form):
                        both = beside(part, sum_of(rest, len(form) - size))
                        self.assertIs(are_alike(form, both), True)
                        self.assertEqual(plain_at(9, form), plain_at(9, both))
                        self.assertEqual(kept_from(form), kept_from(both))

    def test_multiples(self):
        for form in many_forms(48, 1541):
            for number in (3, -1, 4, -20):
                great = [[number * item for item in row] for row in form]
                some = times(pieces_of(form), number)
                self.assertIs(are_alike(great, sum_of(some, len(form))), True)
                self.assertEqual(symbol(great), symbol_of(some, len(form)))
                for width in (1, 5, 64):
                    self.assertEqual(turn_sum(width, great, 1), turn_sum(width, form, number))

    def test_lines_and_books_tell_the_same(self):
        numbers = Numbers(1551)
        for form in many_forms(60, 1552):
            width, size = numbers.between(1, 64), len(form)
            self.assertEqual(of_line(line_of(width, form)), (width, form))
            book = FormBook(*of_line(line_of(width, form)))
            change, words = numbers.change(size, 2), numbers.words(width, size)
            book.do(("change", change))
            self.assertEqual(line_of(book.width(), book.form()), line_of(width, changed(form, change)))
            self.assertEqual(book.pieces(), plain_at(width, form))
            self.assertEqual(book.value(words), value_at(width, changed(form, change), words))
            book.do(("plain",))
            self.assertEqual(book.form(), sum_of(plain_at(width, form), size))
            self.assertIs(is_leading(width, form, book.form(), plain_change(width, form)[1]), True)
            self.assertEqual(table_of(width, book.form()), book.form())
            book.undo()
            book.undo()
            self.assertEqual((book.width(), book.form()), of_line(line_of(width, form)))


class TwoForms(unittest.TestCase):

    def test_what_parts_them(self):
        parted = {True: 0, False: 0}
        for one, other in two_sums(150, 1561, 9):
            alike = are_alike(one, other)
            parted[alike] += 1
            width, sign, word = parting_width(one, other), parting_sign(one, other), parting_word(one, other)
            scales = [[scale[:2] for scale in scales_of(form)] for form in (one, other)]
            for found in (symbol(one) == symbol(other), plain_pieces(one) == plain_pieces(other), width is None, sign is None,
                          road(pieces_of(one), pieces_of(other)) is not None, is_part(one, other), rests(one, other) == [[]],
                          grouped([one, other]) == [[0, 1]]):
                self.assertIs(found, alike)
            # One change leads everywhere exactly if two do, one for each side, and words are taken equally often.
            like = all(are_like(at, one, other) for at in range(1, 65))
            self.assertIs(like, scales[0] == scales[1])
            self.assertIs(like, rungs_everywhere(one) == rungs_everywhere(other))
            self.assertIs(alike, like and word is None)
            self.assertIs(turns_part(one, other) is None, word is None)
            if word is not None:
                self.assertEqual(turns_part(one, other)[0], word[0])
                self.assertIs(is_parting_word(one, other, word), True)
            if len(one) <= 4:
                self.assertIs(alike, word is None)
            for at in (1, 2, 3, 4, 6, 9, 13, 64):
                self.assert_at(at, one, other, width)
        self.assertGreater(min(parted.values()), 20)

    def assert_at(self, width, one, other, parting):
        alike = alike_at(width, one, other)
        self.assertIs(alike, parting is None or width < parting)
        self.assertIs(alike, plain_at(width, one) == plain_at(width, other))
        self.assertIs(alike, grouped_at(width, [one, other]) == [[0, 1]])
        self.assertIs(alike, FormBook(width, one).alike(FormBook(width, other)))
        equal = equal_counts(width, one, other)
        self.assertIs(equal, turn_table(width, one) == turn_table(width, other))
        self.assertIs(alike, equal and low_scales(width, one) == low_scales(width, other))
        if width > 1:
            like = are_like(width - 1, one, other)
            self.assertIs(like, low_scales(width, one) == low_scales(width, other))
            self.assertTrue(not like or silent(width - 1, one) == silent(width - 1, other))
        if alike:
            self.assertIs(is_leading(width, one, other, leading_change(width, one, other)), True)
        else:
            with self.assertRaises(Unlike):
                leading_change(width, one, other)

    def test_all_tables_of_small_widths(self):
        for width, size in ((1, 1), (2, 1), (4, 1), (1, 2), (2, 2), (1, 3)):
            tables = list(small_tables(width, size))
            groups = grouped_at(width, tables)
            self.assertEqual(len(groups), how_many_classes(width, size))
            self.assertEqual(len(tables), how_many_tables(width, size))
            numbers = [class_number(width, table) for table in tables]
            for group in groups:
                first = tables[group[0]]
                self.assertEqual({numbers[at] for at in group}, {class_number(width, first)})
                self.assertEqual(how_many_alike(width, first), len(group))
                plain = class_at(width, size, numbers[group[0]])
                self.assertEqual({tuple(plain_at(width, tables[at])) for at in group}, {tuple(plain)})
                if width * size <= 4:
                    for at in group:
                        found = all_leading(width, first, tables[at])
                        self.assertEqual(len(found), how_many_keep(width, first))
                self.assertEqual(how_many_keep(width, first) * len(group), how_many_changes(width, size))
            self.assertEqual(len(set(numbers)), len(groups))


if __name__ == "__main__":
    unittest.main()
